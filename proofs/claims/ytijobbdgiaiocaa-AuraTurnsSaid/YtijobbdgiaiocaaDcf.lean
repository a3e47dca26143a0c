/-
  Contract of the document's own Right of rows.
-/
import Derived.Test.YtijobbdgiaiocaaDca
import Derived.Test.YtijobbdgiaiocaaPgg
import Derived.Test.YtijobbdgiaiocaaRcm
import Derived.Deep.QuietTactic
import Derived.BigQuiet
namespace Go.Proofs.Ytijobbdgiaiocaa.Con
open Go.RowKit Go.Maps

set_option maxRecDepth 20000 in
set_option maxHeartbeats 4000000 in
theorem raright_any {w : World} {B : Nat} {c : Cn} {A : Option Addr} {l : List Ac} {n cp : Nat} (hc : RC w B c) (hs : Sm c) (hn : l.length = n) (hl : (n : Int) ≤ 100000) (hr : RW ac w B A l) (hB : B ≤ w.heap.size) (x : Bool) (hx : x = true ↔ RightC c ∧ RightL c.au l) :
    Calls Try.prog 19 #[cnv c, .slice A n cp] w fun e w' => e = .returned (.bool x) ∧ Below w.heap.size w w' := by
  subst hn
  have hb := below_box w (oCn c)
  obtain ⟨rc, hrc⟩ := bex (RightC c)
  have HX := Lib.hid hb; have HA := Lib.hid ((ruC hc hB hs).of hb); have HN := Lib.hid (heap_alloc_new w (oCn c)); have HR := Lib.hid (hr.below hb hB)
  have HB := Lib.hid (Nat.le_trans hB hb.size); have HLT : Hid (w.heap.size < (w.alloc (oCn c)).heap.size) := Lib.hid (by simp)
  have HRc := Lib.hid (rright10 (hc.below hb hB) (Nat.le_trans hB hb.size) hs rc hrc)
  have HQ := Lib.hid hx; have HRE := Lib.hid hrc
  clear hc hs hr hB hb hx hrc
  go_enter Try.func19, Try.ntmps19
  generalize hVV : w.alloc (oCn c) = V at HX HA HN HR HB HLT HRc
  have HVV := Lib.hid hVV; clear hVV
  cases rc with
  | false =>
    have HF : Hid (false = x) := Lib.hid (by
      cases x with
      | false => rfl
      | true => have := HRE.out.2 (HQ.out.1 rfl).1; cases this)
    rw [← HVV.out] at HRc HX
    go_wp2_with (first | ((with_reducible refine HRc.out.mono ?_); rintro e w1 ⟨rfl, hB1⟩))
    go_ret
    exact ⟨ret_bool HF.out, HX.out.trans (hB1.mono HX.out.size)⟩
  | true =>
    by_cases h16 : (16 : Int) < l.length
    · have HF : Hid (false = x) := Lib.hid (by
        cases x with
        | false => rfl
        | true => have := (HQ.out.1 rfl).2.1; omega)
      rw [← HVV.out] at HRc HX
      go_wp2_with (first | ((with_reducible refine HRc.out.mono ?_); rintro e w1 ⟨rfl, hB1⟩))
      go_ret
      exact ⟨ret_bool HF.out, HX.out.trans (hB1.mono HX.out.size)⟩
    · have h16' : decide ((16 : Int) < l.length) = false := by simp; omega
      have H16 : Hid (l.length ≤ 16) := Lib.hid (by omega)
      clear h16
      have HRc2 := HRc
      rw [← HVV.out] at HRc2
      go_wp2_with (first | ((with_reducible refine HRc2.out.mono ?_); rintro e w1 ⟨rfl, hB1⟩; have HB1 := Lib.hid hB1; clear hB1))
      have HW1 : Hid (Below V.heap.size V w1) := Lib.hid (by have h9 := HB1.out; rw [HVV.out] at h9; exact h9)
      clear HB1 HRc HRc2 h16'
      go_loopg [6] l.length (fun gh s6 wr => ∃ (k : Nat), k ≤ l.length ∧ gh = l.length - k ∧ s6 = .int .i64 k ∧ Hid (RtK c.au l k) ∧ Hid (Below V.heap.size V wr))
      case atStart => exact ⟨0, by omega, rfl, rfl, Lib.hid (rt_zero _ _), HW1⟩
      case round =>
        obtain ⟨k, hk, rfl, rfl, HK, HW⟩ := hrel
        by_cases hlt : k < l.length
        · skip
          obtain ⟨y, hx⟩ : ∃ y, l[k]? = some y := ⟨_, List.getElem?_eq_getElem hlt⟩
          obtain ⟨b, off, hAA, hpl, d0, d1, d2, d3, d4, d5⟩ := rowAc HR.out hx HW.out HB.out
          subst hAA
          have hlt' : (k : Int) < l.length := by omega
          have HXk := Lib.hid hx
          have HCB : Hid (wr.heap[w.heap.size]? = some (oCn c)) := Lib.hid (hkeep1 HW.out HLT.out HN.out)
          have HBb : Hid (b < wr.heap.size) := Lib.hid (by have := HW.out.size; have := HB.out; omega)
          have HZa : Hid (∀ wz, Below wr.heap.size wr wz → wz.cell? ⟨b, off + k * 6, none⟩ = some (.int .i64 y.aura) ∧ wz.cell? ⟨b, off + k * 6 + 1, none⟩ = some (.int .i64 y.source) ∧ wz.cell? ⟨b, off + k * 6 + 2, none⟩ = some (.int .i64 y.stacks) ∧ wz.cell? ⟨b, off + k * 6 + 3, none⟩ = some (.int .i64 y.untl) ∧ wz.cell? ⟨b, off + k * 6 + 4, none⟩ = some (.int .i64 y.nxt) ∧ wz.cell? ⟨b, off + k * 6 + 5, none⟩ = some (.int .i64 y.left)) := Lib.hid (fun wz hz => ⟨(hz.cell (p := ⟨b, off + k * 6, none⟩) HBb.out).trans d0, (hz.cell (p := ⟨b, off + k * 6 + 1, none⟩) HBb.out).trans d1, (hz.cell (p := ⟨b, off + k * 6 + 2, none⟩) HBb.out).trans d2, (hz.cell (p := ⟨b, off + k * 6 + 3, none⟩) HBb.out).trans d3, (hz.cell (p := ⟨b, off + k * 6 + 4, none⟩) HBb.out).trans d4, (hz.cell (p := ⟨b, off + k * 6 + 5, none⟩) HBb.out).trans d5⟩)
          have HZ : Hid (∀ wz, Below wr.heap.size wr wz → wz.cell? ⟨b, off + k * 6, none⟩ = some (.int .i64 y.aura)) := Lib.hid (fun wz hz => (HZa.out wz hz).1)
          have HC := Lib.hid (fun U (hU : Below wr.heap.size wr U) => HA.out U (HW.out.trans (hU.mono HW.out.size)) y.aura)
          obtain ⟨a, ha⟩ : ∃ a, lkA c.au y.aura = a := ⟨_, rfl⟩
          obtain ⟨u, hu⟩ : ∃ u, lkB c.au y.aura = u := ⟨_, rfl⟩
          rw [ha, hu] at HC
          have HAE := Lib.hid ha; have HUE := Lib.hid hu
          clear hx ha hu d0 d1 d2 d3 d4 d5 hpl
          go_wp2
          refine wp_region_noPanic ?_
          refine wp_region_held_drew (S := fun w' => Below wr.heap.size wr w') (by kernel_rfl) ((Below.refl _ _).drew) (fun hS0 => ?_)
          generalize wr.drew = v0 at hS0 ⊢
          refine wpAnyH_take (i := 0) (oi := ⟨some 26, Op.load 31 (Operand.tmp 2), 31, _, _, none⟩) (v := ?va0) rfl (by kernel_rfl) (by kernel_rfl) (by kernel_rfl) (fun _ _ _ h => h) (Or.inl ⟨by rfl, ?ha0⟩) hS0 ?ra0
          case ha0 => (intro wz hSw; have u9 := cellOf1 (hkeep1 hSw (lt_blk1 HCB.out) HCB.out); go_simp <;> with_reducible rfl)
          (try simp only [Act.put, List.setIfInBounds_toArray, List.set_cons_zero, List.set_cons_succ])
          refine wpAnyH_take (i := 1) (oi := ⟨some 27, Op.move (Operand.tmp 1), 32, _, _, none⟩) (v := ?va1) rfl (by kernel_rfl) (by kernel_rfl) (by kernel_rfl) (fun _ _ _ h => h) (Or.inl ⟨by rfl, ?ha1⟩) hS0 ?ra1
          case ha1 => (intro wz hSw; go_simp <;> with_reducible rfl)
          (try simp only [Act.put, List.setIfInBounds_toArray, List.set_cons_zero, List.set_cons_succ])
          refine wpAnyH_take (i := 2) (oi := ⟨some 28, Op.move (Operand.tmp 6), 3, _, _, none⟩) (v := ?va2) rfl (by kernel_rfl) (by kernel_rfl) (by kernel_rfl) (fun _ _ _ h => h) (Or.inl ⟨by rfl, ?ha2⟩) hS0 ?ra2
          case ha2 => (intro wz hSw; go_simp <;> with_reducible rfl)
          (try simp only [Act.put, List.setIfInBounds_toArray, List.set_cons_zero, List.set_cons_succ])
          refine wpAnyH_take (i := 3) (oi := ⟨some 29, Op.indexAddr 32 (Operand.tmp 27) (Operand.tmp 28), 0, _, _, none⟩) (v := ?va3) rfl (by kernel_rfl) (by kernel_rfl) (by kernel_rfl) (fun _ _ _ h => h) (Or.inl ⟨by rfl, ?ha3⟩) hS0 ?ra3
          case ha3 => (intro wz hSw; go_simp <;> with_reducible rfl)
          (try simp only [Act.put, List.setIfInBounds_toArray, List.set_cons_zero, List.set_cons_succ])
          refine wpAnyH_take (i := 4) (oi := ⟨some 30, Op.fieldAddr 42 (Operand.tmp 29) 0, 0, _, _, none⟩) (v := ?va4) rfl (by kernel_rfl) (by kernel_rfl) (by kernel_rfl) (fun _ _ _ h => h) (Or.inl ⟨by rfl, ?ha4⟩) hS0 ?ra4
          case ha4 => (intro wz hSw; go_simp <;> with_reducible rfl)
          (try simp only [Act.put, List.setIfInBounds_toArray, List.set_cons_zero, List.set_cons_succ])
          refine wpAnyH_take (i := 5) (oi := ⟨some 31, Op.load 3 (Operand.tmp 30), 3, _, _, none⟩) (v := ?va5) rfl (by kernel_rfl) (by kernel_rfl) (by kernel_rfl) (fun _ _ _ h => h) (Or.inl ⟨by rfl, ?ha5⟩) hS0 ?ra5
          case ha5 => (intro wz hSw; have u8 := HZ.out wz hSw; go_simp <;> with_reducible rfl)
          (try simp only [Act.put, List.setIfInBounds_toArray, List.set_cons_zero, List.set_cons_succ])
          refine wpAnyH_ready (rs := [6, 10]) (by kernel_rfl) (by simp) ?_
          refine AllReadyH.cons (o := ⟨some 32, Op.call { callee := Callee.value (Operand.func 33), args := #[Operand.tmp 26, Operand.tmp 31], argTypes := #[31, 3] }, 55, _, _, none⟩) rfl (fun K hK => ?_) (AllReadyH.cons (o := ⟨some 7, Op.alloc 54, 0, _, _, none⟩) rfl (fun K hK => ?_) AllReadyH.nil)
          · go_simp
            ((with_reducible refine (HC.out v0 hS0).mono ?_); rintro e v1 ⟨rfl, hBv⟩; have hS1 : Below wr.heap.size wr v1 := hS0.trans (hBv.mono hS0.size))
            refine hK.out _ _ hS1 (fun _ => ?_)
            clear hK K
            (try simp only [Act.put, List.setIfInBounds_toArray, List.set_cons_zero, List.set_cons_succ])
            refine wpAnyH_take (i := 7) (oi := ⟨some 25, Op.move (Operand.tmp 32), 55, _, _, none⟩) (v := ?vab67) rfl (by kernel_rfl) (by kernel_rfl) (by kernel_rfl) (fun _ _ _ h => h) (Or.inl ⟨by rfl, ?hab67⟩) hS1 ?rab67
            case hab67 => (intro wz hSw; go_simp <;> with_reducible rfl)
            (try simp only [Act.put, List.setIfInBounds_toArray, List.set_cons_zero, List.set_cons_succ])
            refine wpAnyH_take (i := 8) (oi := ⟨some 33, Op.extract (Operand.tmp 25) 0, 54, _, _, none⟩) (v := ?vab68) rfl (by kernel_rfl) (by kernel_rfl) (by kernel_rfl) (fun _ _ _ h => h) (Or.inl ⟨by rfl, ?hab68⟩) hS1 ?rab68
            case hab68 => (intro wz hSw; go_simp <;> with_reducible rfl)
            (try simp only [Act.put, List.setIfInBounds_toArray, List.set_cons_zero, List.set_cons_succ])
            refine wpAnyH_take (i := 9) (oi := ⟨some 34, Op.extract (Operand.tmp 25) 1, 4, _, _, none⟩) (v := ?vab69) rfl (by kernel_rfl) (by kernel_rfl) (by kernel_rfl) (fun _ _ _ h => h) (Or.inl ⟨by rfl, ?hab69⟩) hS1 ?rab69
            case hab69 => (intro wz hSw; go_simp <;> with_reducible rfl)
            (try simp only [Act.put, List.setIfInBounds_toArray, List.set_cons_zero, List.set_cons_succ])
            refine wpAnyH_ready (rs := [10]) (by kernel_rfl) (by simp) ?_
            refine AllReadyH.cons (o := ⟨some 7, Op.alloc 54, 0, _, _, none⟩) rfl (fun K hK => ?_) AllReadyH.nil
            go_simp
            have HP1 : Hid ((v1.alloc zcAu).heap[v1.heap.size]? = some zcAu) := Lib.hid (heap_alloc_new v1 zcAu); have hS2 : Below wr.heap.size wr (v1.alloc zcAu) := hS1.alloc hS1.size _
            refine hK.out _ _ hS2 (fun _ => ?_)
            clear hK K
            (try simp only [Act.put, List.setIfInBounds_toArray, List.set_cons_zero, List.set_cons_succ])
            refine wpAnyH_ready (rs := [11]) (by kernel_rfl) (by simp) ?_
            refine AllReadyH.cons (o := ⟨none, Op.store 54 (Operand.tmp 7) (Operand.tmp 33), 0, _, _, none⟩) rfl (fun K hK => ?_) AllReadyH.nil
            have z1 := cellOf1 HP1.out; have y1 := frozOf1 HP1.out; have l1 := lt_blk1 HP1.out
            go_simp
            have hS4 : Below wr.heap.size wr (v1.alloc (oAu a)) := hS1.alloc hS1.size _; have HP4 : Hid ((v1.alloc (oAu a)).heap[v1.heap.size]? = some (oAu a)) := Lib.hid (heap_alloc_new v1 (oAu a))
            refine hK.out _ _ hS4 (fun _ => ?_)
            clear hK K
            (try simp only [Act.put, List.setIfInBounds_toArray, List.set_cons_zero, List.set_cons_succ])
            refine wpAnyH_take (i := 12) (oi := ⟨some 8, Op.assign (Operand.tmp 34), 4, _, _, none⟩) (v := ?vab612) rfl (by kernel_rfl) (by kernel_rfl) (by kernel_rfl) (fun _ _ _ h => h) (Or.inl ⟨by rfl, ?hab612⟩) hS4 ?rab612
            case hab612 => (intro wz hSw; go_simp <;> with_reducible rfl)
            (try simp only [Act.put, List.setIfInBounds_toArray, List.set_cons_zero, List.set_cons_succ])
            refine wpAnyH_done (by kernel_rfl) ?_ _
            refine NoPanic.normal ?_
            have hp4 : wr.heap.size ≤ v1.heap.size := hS1.size
            have HV3 := Lib.hid hS4
            clear hS4 hBv
            generalize (v1.alloc (oAu a)) = v3 at HP4 HV3 ⊢
            generalize v1.heap.size = p at HP4 hp4 ⊢
            have hpl := lt_blk1 HP4.out
            clear hS0 hS1
            have q9 := cellOf1 HP4.out
            obtain ⟨d0, d1, d2, d3, d4, d5⟩ := HZa.out v3 HV3.out
            have hbv : b < v3.heap.size := Nat.lt_of_lt_of_le HBb.out HV3.out.size
            cases u with
            | false =>
              have HF : Hid (false = x) := Lib.hid (not_ok HXk.out HQ.out (fun h => by have := h.1; rw [HUE.out] at this; cases this))
              go_wp2
              go_quiet (fail)
              go_wp2
              go_ret
              exact ⟨ret_bool HF.out, HX.out.trans (Below.mono (below_drewN (HW.out.trans (HV3.out.mono HW.out.size)) _) HX.out.size)⟩
            | true =>
              by_cases t1 : y.stacks < 1
              · have HF : Hid (false = x) := Lib.hid (not_ok HXk.out HQ.out (fun h => by have := h.2.1; omega))
                go_wp2
                go_quiet (fail)
                go_wp2
                go_ret
                exact ⟨ret_bool HF.out, HX.out.trans (Below.mono (below_drewN (HW.out.trans (HV3.out.mono HW.out.size)) _) HX.out.size)⟩
              · have t1' : decide (y.stacks < 1) = false := by simpa using t1
                by_cases t2 : a.stacks < y.stacks
                · have HF : Hid (false = x) := Lib.hid (not_ok HXk.out HQ.out (fun h => by have := h.2.2.1; rw [HAE.out] at this; omega))
                  go_wp2
                  go_quiet (fail)
                  go_wp2
                  go_ret
                  exact ⟨ret_bool HF.out, HX.out.trans (Below.mono (below_drewN (HW.out.trans (HV3.out.mono HW.out.size)) _) HX.out.size)⟩
                · have t2' : decide (a.stacks < y.stacks) = false := by simpa using t2
                  by_cases t3 : y.left < 0
                  · have HF : Hid (false = x) := Lib.hid (not_ok HXk.out HQ.out (fun h => by have := h.2.2.2; omega))
                    go_wp2
                    go_quiet (fail)
                    go_wp2
                    go_ret
                    exact ⟨ret_bool HF.out, HX.out.trans (Below.mono (below_drewN (HW.out.trans (HV3.out.mono HW.out.size)) _) HX.out.size)⟩
                  · have t3' : decide (y.left < 0) = false := by simpa using t3
                    have HOk : Hid (OkA c.au y) := Lib.hid ⟨HUE.out, by omega, by rw [HAE.out]; omega, by omega⟩
                    clear t1 t2 t3
                    go_wp2
                    go_quiet (fail)
                    go_wp2
                    have HWv : Hid (Below V.heap.size V v3) := Lib.hid (HW.out.trans (HV3.out.mono HW.out.size))
                    clear d0 d1 d2 d3 d4 d5 q9 hbv
                    go_loopg [9] k (fun gh s9 wr => ∃ (j : Nat), j ≤ k ∧ gh = k - j ∧ s9 = .int .i64 j ∧ Hid (∀ i z, i < j → l[i]? = some z → ¬ (z.aura = y.aura ∧ z.source = y.source)) ∧ Hid (Below V.heap.size V wr))
                    case atStart => exact ⟨0, by omega, rfl, rfl, Lib.hid (fun i _ hi => by omega), Lib.hid (below_drewN HWv.out _)⟩
                    case round =>
                      obtain ⟨j, hj, rfl, rfl, HJ, HWj⟩ := hrel
                      by_cases hjk : j < k
                      · obtain ⟨z, hz⟩ : ∃ z, l[j]? = some z := ⟨_, List.getElem?_eq_getElem (by omega)⟩
                        obtain ⟨b1, off1, hA1, hpl1, d0, d1, d2, d3, d4, d5⟩ := rowAc HR.out HXk.out HWj.out HB.out
                        obtain ⟨b2, off2, hA2, _, f0, f1, f2, f3, f4, f5⟩ := rowAc HR.out hz HWj.out HB.out
                        injection hA1 with g1; injection g1 with g1 g2; subst g1; subst g2
                        injection hA2 with g1; injection g1 with g1 g2; subst g1; subst g2
                        have hjk' : (j : Int) < k := by omega
                        have hjl' : (j : Int) < l.length := by omega
                        have hbw : b < wr.heap.size := by have := HWj.out.size; have := HB.out; omega
                        have HZj := Lib.hid hz
                        clear hz
                        by_cases s1 : z.aura = y.aura
                        · have s1' : (z.aura == y.aura) = true := by simpa using s1
                          by_cases s2 : z.source = y.source
                          · have s2' : (z.source == y.source) = true := by simpa using s2
                            have HF : Hid (false = x) := Lib.hid (not_one HXk.out HQ.out (fun h => (pl_at HXk.out).1 h j z hjk HZj.out ⟨s1, s2⟩))
                            clear s1 s2
                            go_wp2
                            go_quiet (fail)
                            go_wp2
                            go_ret
                            exact ⟨ret_bool HF.out, HX.out.trans (Below.mono (below_drewN HWj.out _) HX.out.size)⟩
                          · have s2' : (z.source == y.source) = false := by simpa using s2
                            have HJn : Hid (∀ i z, i < j + 1 → l[i]? = some z → ¬ (z.aura = y.aura ∧ z.source = y.source)) := Lib.hid (fun i z' hi hz' => by
                              rcases Nat.lt_or_eq_of_le (Nat.le_of_lt_succ hi) with h | rfl
                              · exact HJ.out i z' h hz'
                              · rw [HZj.out] at hz'; injection hz' with e; subst e; exact fun h => s2 h.2)
                            clear s1 s2
                            go_wp2
                            go_quiet (fail)
                            go_wp2
                            go_roundg (k - (j + 1))
                            case measure => omega
                            case rel => exact ⟨j + 1, by omega, rfl, by go_num, HJn, Lib.hid (below_drewN HWj.out _)⟩
                        · have s1' : (z.aura == y.aura) = false := by simpa using s1
                          have HJn : Hid (∀ i z, i < j + 1 → l[i]? = some z → ¬ (z.aura = y.aura ∧ z.source = y.source)) := Lib.hid (fun i z' hi hz' => by
                            rcases Nat.lt_or_eq_of_le (Nat.le_of_lt_succ hi) with h | rfl
                            · exact HJ.out i z' h hz'
                            · rw [HZj.out] at hz'; injection hz' with e; subst e; exact fun h => s1 h.1)
                          clear s1
                          go_wp2
                          go_quiet (fail)
                          go_wp2
                          go_roundg (k - (j + 1))
                          case measure => omega
                          case rel => exact ⟨j + 1, by omega, rfl, by go_num, HJn, Lib.hid (below_drewN HWj.out _)⟩
                      · have hjk' : decide ((j : Int) < k) = false := by simp; omega
                        have HNx : Hid (RtK c.au l (k + 1)) := Lib.hid (rt_next HK.out HXk.out HOk.out (fun i z hi hz => HJ.out i z (by omega) hz))
                        go_wp2
                        go_roundg (l.length - (k + 1))
                        case measure => omega
                        case rel => exact ⟨k + 1, by omega, rfl, by go_num, HNx, HWj⟩
          · go_simp
            have hSa : Below wr.heap.size wr (v0.alloc zcAu) := hS0.alloc hS0.size _
            refine hK.out _ _ hSa (fun _ => ?_)
            clear hK K
            (try simp only [Act.put, List.setIfInBounds_toArray, List.set_cons_zero, List.set_cons_succ])
            refine wpAnyH_ready (rs := [6]) (by kernel_rfl) (by simp) ?_
            refine AllReadyH.cons (o := ⟨some 32, Op.call { callee := Callee.value (Operand.func 33), args := #[Operand.tmp 26, Operand.tmp 31], argTypes := #[31, 3] }, 55, _, _, none⟩) rfl (fun K hK => ?_) AllReadyH.nil
            go_simp
            ((with_reducible refine (HC.out _ hSa).mono ?_); rintro e v1 ⟨rfl, hBv⟩; have hS1 : Below wr.heap.size wr v1 := hSa.trans (hBv.mono hSa.size); have HP1 : Hid (v1.heap[v0.heap.size]? = some zcAu) := Lib.hid (hkeep1 hBv (by simp) (heap_alloc_new v0 zcAu)))
            refine hK.out _ _ hS1 (fun _ => ?_)
            clear hK K
            (try simp only [Act.put, List.setIfInBounds_toArray, List.set_cons_zero, List.set_cons_succ])
            refine wpAnyH_take (i := 7) (oi := ⟨some 25, Op.move (Operand.tmp 32), 55, _, _, none⟩) (v := ?vab107) rfl (by kernel_rfl) (by kernel_rfl) (by kernel_rfl) (fun _ _ _ h => h) (Or.inl ⟨by rfl, ?hab107⟩) hS1 ?rab107
            case hab107 => (intro wz hSw; go_simp <;> with_reducible rfl)
            (try simp only [Act.put, List.setIfInBounds_toArray, List.set_cons_zero, List.set_cons_succ])
            refine wpAnyH_take (i := 8) (oi := ⟨some 33, Op.extract (Operand.tmp 25) 0, 54, _, _, none⟩) (v := ?vab108) rfl (by kernel_rfl) (by kernel_rfl) (by kernel_rfl) (fun _ _ _ h => h) (Or.inl ⟨by rfl, ?hab108⟩) hS1 ?rab108
            case hab108 => (intro wz hSw; go_simp <;> with_reducible rfl)
            (try simp only [Act.put, List.setIfInBounds_toArray, List.set_cons_zero, List.set_cons_succ])
            refine wpAnyH_take (i := 9) (oi := ⟨some 34, Op.extract (Operand.tmp 25) 1, 4, _, _, none⟩) (v := ?vab109) rfl (by kernel_rfl) (by kernel_rfl) (by kernel_rfl) (fun _ _ _ h => h) (Or.inl ⟨by rfl, ?hab109⟩) hS1 ?rab109
            case hab109 => (intro wz hSw; go_simp <;> with_reducible rfl)
            (try simp only [Act.put, List.setIfInBounds_toArray, List.set_cons_zero, List.set_cons_succ])
            refine wpAnyH_ready (rs := [11]) (by kernel_rfl) (by simp) ?_
            refine AllReadyH.cons (o := ⟨none, Op.store 54 (Operand.tmp 7) (Operand.tmp 33), 0, _, _, none⟩) rfl (fun K hK => ?_) AllReadyH.nil
            have z1 := cellOf1 HP1.out; have y1 := frozOf1 HP1.out; have l1 := lt_blk1 HP1.out
            go_simp
            have hS4 : Below wr.heap.size wr (((((((v1.setCell ⟨v0.heap.size, 0, none⟩ (.int .i64 a.id)).setCell ⟨v0.heap.size, 1, none⟩ (.int .i64 a.kind)).setCell ⟨v0.heap.size, 2, none⟩ (.int .i64 a.ticks)).setCell ⟨v0.heap.size, 3, none⟩ (.int .i64 a.every)).setCell ⟨v0.heap.size, 4, none⟩ (.int .i64 a.stacks)).setCell ⟨v0.heap.size, 5, none⟩ (.int .i64 a.amount)).setCell ⟨v0.heap.size, 6, none⟩ (.bool a.harm)) := below_setCells v0.heap.size hS0.size [.int .i64 a.id, .int .i64 a.kind, .int .i64 a.ticks, .int .i64 a.every, .int .i64 a.stacks, .int .i64 a.amount, .bool a.harm] 0 _ hS1; have HP4 : Hid ((((((((v1.setCell ⟨v0.heap.size, 0, none⟩ (.int .i64 a.id)).setCell ⟨v0.heap.size, 1, none⟩ (.int .i64 a.kind)).setCell ⟨v0.heap.size, 2, none⟩ (.int .i64 a.ticks)).setCell ⟨v0.heap.size, 3, none⟩ (.int .i64 a.every)).setCell ⟨v0.heap.size, 4, none⟩ (.int .i64 a.stacks)).setCell ⟨v0.heap.size, 5, none⟩ (.int .i64 a.amount)).setCell ⟨v0.heap.size, 6, none⟩ (.bool a.harm)).heap[v0.heap.size]? = some (oAu a)) := Lib.hid (put7 HP1.out _ _ _ _ _ _ _)
            refine hK.out _ _ hS4 (fun _ => ?_)
            clear hK K
            (try simp only [Act.put, List.setIfInBounds_toArray, List.set_cons_zero, List.set_cons_succ])
            refine wpAnyH_take (i := 12) (oi := ⟨some 8, Op.assign (Operand.tmp 34), 4, _, _, none⟩) (v := ?vab1012) rfl (by kernel_rfl) (by kernel_rfl) (by kernel_rfl) (fun _ _ _ h => h) (Or.inl ⟨by rfl, ?hab1012⟩) hS4 ?rab1012
            case hab1012 => (intro wz hSw; go_simp <;> with_reducible rfl)
            (try simp only [Act.put, List.setIfInBounds_toArray, List.set_cons_zero, List.set_cons_succ])
            refine wpAnyH_done (by kernel_rfl) ?_ _
            refine NoPanic.normal ?_
            have hp4 : wr.heap.size ≤ v0.heap.size := hS0.size
            have HV3 := Lib.hid hS4
            clear hS4 hBv
            generalize (((((((v1.setCell ⟨v0.heap.size, 0, none⟩ (.int .i64 a.id)).setCell ⟨v0.heap.size, 1, none⟩ (.int .i64 a.kind)).setCell ⟨v0.heap.size, 2, none⟩ (.int .i64 a.ticks)).setCell ⟨v0.heap.size, 3, none⟩ (.int .i64 a.every)).setCell ⟨v0.heap.size, 4, none⟩ (.int .i64 a.stacks)).setCell ⟨v0.heap.size, 5, none⟩ (.int .i64 a.amount)).setCell ⟨v0.heap.size, 6, none⟩ (.bool a.harm)) = v3 at HP4 HV3 ⊢
            generalize v0.heap.size = p at HP4 hp4 ⊢
            have hpl := lt_blk1 HP4.out
            clear hS0 hS1
            have q9 := cellOf1 HP4.out
            obtain ⟨d0, d1, d2, d3, d4, d5⟩ := HZa.out v3 HV3.out
            have hbv : b < v3.heap.size := Nat.lt_of_lt_of_le HBb.out HV3.out.size
            cases u with
            | false =>
              have HF : Hid (false = x) := Lib.hid (not_ok HXk.out HQ.out (fun h => by have := h.1; rw [HUE.out] at this; cases this))
              go_wp2
              go_quiet (fail)
              go_wp2
              go_ret
              exact ⟨ret_bool HF.out, HX.out.trans (Below.mono (below_drewN (HW.out.trans (HV3.out.mono HW.out.size)) _) HX.out.size)⟩
            | true =>
              by_cases t1 : y.stacks < 1
              · have HF : Hid (false = x) := Lib.hid (not_ok HXk.out HQ.out (fun h => by have := h.2.1; omega))
                go_wp2
                go_quiet (fail)
                go_wp2
                go_ret
                exact ⟨ret_bool HF.out, HX.out.trans (Below.mono (below_drewN (HW.out.trans (HV3.out.mono HW.out.size)) _) HX.out.size)⟩
              · have t1' : decide (y.stacks < 1) = false := by simpa using t1
                by_cases t2 : a.stacks < y.stacks
                · have HF : Hid (false = x) := Lib.hid (not_ok HXk.out HQ.out (fun h => by have := h.2.2.1; rw [HAE.out] at this; omega))
                  go_wp2
                  go_quiet (fail)
                  go_wp2
                  go_ret
                  exact ⟨ret_bool HF.out, HX.out.trans (Below.mono (below_drewN (HW.out.trans (HV3.out.mono HW.out.size)) _) HX.out.size)⟩
                · have t2' : decide (a.stacks < y.stacks) = false := by simpa using t2
                  by_cases t3 : y.left < 0
                  · have HF : Hid (false = x) := Lib.hid (not_ok HXk.out HQ.out (fun h => by have := h.2.2.2; omega))
                    go_wp2
                    go_quiet (fail)
                    go_wp2
                    go_ret
                    exact ⟨ret_bool HF.out, HX.out.trans (Below.mono (below_drewN (HW.out.trans (HV3.out.mono HW.out.size)) _) HX.out.size)⟩
                  · have t3' : decide (y.left < 0) = false := by simpa using t3
                    have HOk : Hid (OkA c.au y) := Lib.hid ⟨HUE.out, by omega, by rw [HAE.out]; omega, by omega⟩
                    clear t1 t2 t3
                    go_wp2
                    go_quiet (fail)
                    go_wp2
                    have HWv : Hid (Below V.heap.size V v3) := Lib.hid (HW.out.trans (HV3.out.mono HW.out.size))
                    clear d0 d1 d2 d3 d4 d5 q9 hbv
                    go_loopg [9] k (fun gh s9 wr => ∃ (j : Nat), j ≤ k ∧ gh = k - j ∧ s9 = .int .i64 j ∧ Hid (∀ i z, i < j → l[i]? = some z → ¬ (z.aura = y.aura ∧ z.source = y.source)) ∧ Hid (Below V.heap.size V wr))
                    case atStart => exact ⟨0, by omega, rfl, rfl, Lib.hid (fun i _ hi => by omega), Lib.hid (below_drewN HWv.out _)⟩
                    case round =>
                      obtain ⟨j, hj, rfl, rfl, HJ, HWj⟩ := hrel
                      by_cases hjk : j < k
                      · obtain ⟨z, hz⟩ : ∃ z, l[j]? = some z := ⟨_, List.getElem?_eq_getElem (by omega)⟩
                        obtain ⟨b1, off1, hA1, hpl1, d0, d1, d2, d3, d4, d5⟩ := rowAc HR.out HXk.out HWj.out HB.out
                        obtain ⟨b2, off2, hA2, _, f0, f1, f2, f3, f4, f5⟩ := rowAc HR.out hz HWj.out HB.out
                        injection hA1 with g1; injection g1 with g1 g2; subst g1; subst g2
                        injection hA2 with g1; injection g1 with g1 g2; subst g1; subst g2
                        have hjk' : (j : Int) < k := by omega
                        have hjl' : (j : Int) < l.length := by omega
                        have hbw : b < wr.heap.size := by have := HWj.out.size; have := HB.out; omega
                        have HZj := Lib.hid hz
                        clear hz
                        by_cases s1 : z.aura = y.aura
                        · have s1' : (z.aura == y.aura) = true := by simpa using s1
                          by_cases s2 : z.source = y.source
                          · have s2' : (z.source == y.source) = true := by simpa using s2
                            have HF : Hid (false = x) := Lib.hid (not_one HXk.out HQ.out (fun h => (pl_at HXk.out).1 h j z hjk HZj.out ⟨s1, s2⟩))
                            clear s1 s2
                            go_wp2
                            go_quiet (fail)
                            go_wp2
                            go_ret
                            exact ⟨ret_bool HF.out, HX.out.trans (Below.mono (below_drewN HWj.out _) HX.out.size)⟩
                          · have s2' : (z.source == y.source) = false := by simpa using s2
                            have HJn : Hid (∀ i z, i < j + 1 → l[i]? = some z → ¬ (z.aura = y.aura ∧ z.source = y.source)) := Lib.hid (fun i z' hi hz' => by
                              rcases Nat.lt_or_eq_of_le (Nat.le_of_lt_succ hi) with h | rfl
                              · exact HJ.out i z' h hz'
                              · rw [HZj.out] at hz'; injection hz' with e; subst e; exact fun h => s2 h.2)
                            clear s1 s2
                            go_wp2
                            go_quiet (fail)
                            go_wp2
                            go_roundg (k - (j + 1))
                            case measure => omega
                            case rel => exact ⟨j + 1, by omega, rfl, by go_num, HJn, Lib.hid (below_drewN HWj.out _)⟩
                        · have s1' : (z.aura == y.aura) = false := by simpa using s1
                          have HJn : Hid (∀ i z, i < j + 1 → l[i]? = some z → ¬ (z.aura = y.aura ∧ z.source = y.source)) := Lib.hid (fun i z' hi hz' => by
                            rcases Nat.lt_or_eq_of_le (Nat.le_of_lt_succ hi) with h | rfl
                            · exact HJ.out i z' h hz'
                            · rw [HZj.out] at hz'; injection hz' with e; subst e; exact fun h => s1 h.1)
                          clear s1
                          go_wp2
                          go_quiet (fail)
                          go_wp2
                          go_roundg (k - (j + 1))
                          case measure => omega
                          case rel => exact ⟨j + 1, by omega, rfl, by go_num, HJn, Lib.hid (below_drewN HWj.out _)⟩
                      · have hjk' : decide ((j : Int) < k) = false := by simp; omega
                        have HNx : Hid (RtK c.au l (k + 1)) := Lib.hid (rt_next HK.out HXk.out HOk.out (fun i z hi hz => HJ.out i z (by omega) hz))
                        go_wp2
                        go_roundg (l.length - (k + 1))
                        case measure => omega
                        case rel => exact ⟨k + 1, by omega, rfl, by go_num, HNx, HWj⟩
        · have hlt' : decide ((k : Int) < l.length) = false := by simp; omega
          have HF : Hid (true = x) := Lib.hid (by
            have hkn : k = l.length := by omega
            have h1 := HK.out; rw [hkn] at h1
            exact (HQ.out.2 ⟨HRE.out.1 (by first | rfl | trivial), rt_all h1 H16.out⟩).symm)
          go_wp2
          go_ret
          exact ⟨ret_bool HF.out, HX.out.trans (HW.out.mono HX.out.size)⟩
end Go.Proofs.Ytijobbdgiaiocaa.Con
