/-
  The law of cleaning: of a right row Clean does not turn what is ready at that time, or later; the row it leaves is right, is no longer, and cleans to the same.
-/
import Derived.Test.YtmdnjkiciaidiaaRrw
import Derived.Test.YtmdnjkiciaidiaaOpn
import Derived.WalkKit
import Derived.ProofKit
import Derived.OpenShut
namespace Go.Proofs.Ytmdnjkiciaidiaa.coolCleans
open Go.ChangeShapes Go.WideShapes Go.ChangeAt Go.RowKit Con
set_option linter.unusedVariables false

theorem own : ownKnob Try.prog.godebug = none := by kernel_rfl

set_option maxRecDepth 100000 in
set_option maxHeartbeats 8000000 in
theorem walk (w : World) (A : Option Addr) (cp : Nat) (l : List Co) (hcp : l.length ≤ cp) (hr : KRc w w.heap.size A l) (hf : ∀ s ∈ l, s.bk.length ≤ s.bc ∧ FCo s) (a : Abl) (ha : Opn.FAbl a) (now : Int) (hf2 : Fits now) (later : Int) (hf3 : Fits later) :
    Calls Try.prog 6 #[.slice A l.length cp, ablv a, .int .i64 now, .int .i64 later] w fun e w' => e = .returned (.bool true) ∧ Below w.heap.size w w' := by
  have HX := Lib.hid (below_box w (oAbl a))
  have HSmall := Lib.hid (small_any (w.alloc (oAbl a)))
  have HZ0 : Hid (∀ wz, Below (w.alloc (oAbl a)).heap.size (w.alloc (oAbl a)) wz → w.heap.size < wz.heap.size ∧ ∀ o, wz.cell? ⟨w.heap.size, o, none⟩ = (#[.int .i64 a.id, .int .i64 a.cast, .int .i64 a.cool, .int .i64 a.charges, .int .i64 a.range, .int .i64 a.cost, .bool a.sight, .slice a.ea a.en a.ec] : Array Value)[o]?) := Lib.hid (fun wz h => ⟨(box_abl h).1, cellsAbl (box_abl h).2.1⟩)
  have HR := Lib.hid hr; have HF := Lib.hid hf; have HCH := Lib.hid ha.2.2
  obtain ⟨fb, hfb⟩ := bex (FwP l)
  have HFB := Lib.hid hfb
  have HFW : Hid (∀ V, Below w.heap.size w V → Calls Try.prog 8 #[.slice A l.length cp] V fun e w' => e = .returned (.bool fb) ∧ Below V.heap.size V w') := Lib.hid (fun V hV => few_iff rfl (hr.below hV (Nat.le_refl _)) hV.size fb hfb)
  clear hr hf hf2 hf3 ha hcp hfb
  go_enter Try.func6, Try.ntmps6
  cases fb with
  | false =>
    go_wp2_with (first
      | ((with_reducible refine HSmall.out.mono ?_); rintro e w1 ⟨rfl, hB1⟩; have HW1 := Lib.hid (HX.out.trans (hB1.mono HX.out.size)); have HFWN := Lib.hid (HFW.out w1 HW1.out))
      | ((with_reducible refine HFWN.out.mono ?_); rintro e w2 ⟨rfl, hB2⟩))
    go_ret
    exact ⟨rfl, HW1.out.trans (hB2.mono HW1.out.size)⟩
  | true =>
    have hfw : FwP l := HFB.out.1 (by first | rfl | trivial)
    have HRR : Hid (RR w A l (l.map Co.pl)) := Lib.hid ⟨HR.out, rfl, fun x hx => (HF.out x hx).1, fun x hx => Nat.le_trans (hfw.2 x hx) (by omega), by have := hfw.1; omega⟩
    have HSH0 : Hid (∀ x ∈ l.map Co.pl, x.2.length ≤ 1000) := Lib.hid (fun x hx => by obtain ⟨y, hy, rfl⟩ := List.mem_map.1 hx; exact Nat.le_trans (hfw.2 y hy) (by omega))
    have HL60 : Hid (l.length ≤ 60) := Lib.hid hfw.1
    clear hfw
    obtain ⟨rb, hrb⟩ := bex (RtC (l.map Co.pl))
    have HRB := Lib.hid hrb
    have HRT : Hid (∀ V, Below w.heap.size w V → Calls Try.prog 17 #[.slice A l.length cp] V fun e w' => e = .returned (.bool rb) ∧ Below V.heap.size V w') := Lib.hid (fun V hV => (HRR.out.of hV).right rb hrb)
    clear hrb
    cases rb with
    | false =>
      go_wp2_with (first
        | ((with_reducible refine HSmall.out.mono ?_); rintro e w1 ⟨rfl, hB1⟩; have HW1 := Lib.hid (HX.out.trans (hB1.mono HX.out.size)); have HFWN := Lib.hid (HFW.out w1 HW1.out))
        | ((with_reducible refine HFWN.out.mono ?_); rintro e w2 ⟨rfl, hB2⟩; have HW2 := Lib.hid (HW1.out.trans (hB2.mono HW1.out.size)); have HRTN := Lib.hid (HRT.out w2 HW2.out))
        | ((with_reducible refine HRTN.out.mono ?_); rintro e w3 ⟨rfl, hB3⟩))
      go_ret
      exact ⟨rfl, HW2.out.trans (hB3.mono HW2.out.size)⟩
    | true =>
      have HRTC : Hid (RtC (l.map Co.pl)) := Lib.hid (HRB.out.1 (by first | rfl | trivial))
      by_cases hlt : later < now
      · have hlt' : decide (later < now) = true := by simpa using hlt
        go_wp2_with (first
          | ((with_reducible refine HSmall.out.mono ?_); rintro e w1 ⟨rfl, hB1⟩; have HW1 := Lib.hid (HX.out.trans (hB1.mono HX.out.size)); have HFWN := Lib.hid (HFW.out w1 HW1.out))
          | ((with_reducible refine HFWN.out.mono ?_); rintro e w2 ⟨rfl, hB2⟩; have HW2 := Lib.hid (HW1.out.trans (hB2.mono HW1.out.size)); have HRTN := Lib.hid (HRT.out w2 HW2.out))
          | ((with_reducible refine HRTN.out.mono ?_); rintro e w3 ⟨rfl, hB3⟩))
        go_ret
        exact ⟨rfl, HW2.out.trans (hB3.mono HW2.out.size)⟩
      · have hlt' : decide (later < now) = false := by simp; omega
        have HNL : Hid (now ≤ later) := Lib.hid (by omega)
        clear hlt
        go_wp2_with (first
          | ((with_reducible refine HSmall.out.mono ?_); rintro e w1 ⟨rfl, hB1⟩; have HB1 := Lib.hid hB1; have HW1 := Lib.hid (HX.out.trans (hB1.mono HX.out.size)); have HFWN := Lib.hid (HFW.out w1 HW1.out))
          | ((with_reducible refine HFWN.out.mono ?_); rintro e w2 ⟨rfl, hB2⟩; have HB2 := Lib.hid (HB1.out.trans (hB2.mono HB1.out.size)); have HW2 := Lib.hid (HW1.out.trans (hB2.mono HW1.out.size)); have HRTN := Lib.hid (HRT.out w2 HW2.out))
          | ((with_reducible refine HRTN.out.mono ?_); rintro e w3 ⟨rfl, hB3⟩; have HB3 := Lib.hid (HB2.out.trans (hB3.mono HB2.out.size)); have HW3 := Lib.hid (HW2.out.trans (hB3.mono HW2.out.size)); have HCLN := Lib.hid ((HRR.out.of HW3.out).clean (c := cp) now rfl))
          | ((with_reducible refine HCLN.out.mono ?_); rintro e w4 ⟨A4, c4, M4, rfl, hM4, hK4, hC4, hB4⟩; have HB4 := Lib.hid (HB3.out.trans (hB4.out.mono HB3.out.size)); have HW4 := Lib.hid (HW3.out.trans (hB4.out.mono HW3.out.size))))
        have HCLEN : Hid ((clI (l.map Co.pl) now).length ≤ l.length) := Lib.hid (by have := cl_len (l.map Co.pl) now; rw [List.length_map] at this; exact this)
        have HRR4 : Hid (RR w4 A4 M4 (clI (l.map Co.pl) now)) := Lib.hid (RR.mk' hK4.out.kr hM4.out hC4.out (cl_short now HSH0.out) (by have := HCLEN.out; have := HL60.out; omega))
        have hlen : M4.length ≤ l.length := by rw [HRR4.out.plen]; exact HCLEN.out
        have hlenI : decide ((M4.length : Int) ≤ (l.length : Int)) = true := decide_eq_true (by omega)
        have HSH : Hid (∀ x ∈ clI (l.map Co.pl) later, x.2.length ≤ 1000) := Lib.hid (cl_short later HSH0.out)
        have HLE : Hid (((clI (l.map Co.pl) later).length : Int) ≤ 1000) := Lib.hid (by have := cl_len (l.map Co.pl) later; rw [List.length_map] at this; have := HL60.out; omega)
        have HZ : Hid (∀ wz, Below w4.heap.size w4 wz → w.heap.size < wz.heap.size ∧ ∀ o, wz.cell? ⟨w.heap.size, o, none⟩ = (#[.int .i64 a.id, .int .i64 a.cast, .int .i64 a.cool, .int .i64 a.charges, .int .i64 a.range, .int .i64 a.cost, .bool a.sight, .slice a.ea a.en a.ec] : Array Value)[o]?) := Lib.hid (fun wz h => HZ0.out wz (HB4.out.trans (h.mono HB4.out.size)))
        obtain ⟨r1, hr1⟩ : ∃ r1, rdI a.charges (wyI (l.map Co.pl) a.id now).length = r1 := ⟨_, rfl⟩
        obtain ⟨r2, hr2⟩ : ∃ r2, rdI a.charges (wyI (l.map Co.pl) a.id later).length = r2 := ⟨_, rfl⟩
        have HRR0 : Hid (RR w4 A l (l.map Co.pl)) := Lib.hid (HRR.out.of HW4.out)
        have HR1 : Hid (∀ U, Below w4.heap.size w4 U → Calls Try.prog 17 #[.slice A4 M4.length c4] U fun e w' => e = .returned (.bool true) ∧ Below U.heap.size U w') := Lib.hid (fun U hU => (HRR4.out.of hU).right true ⟨fun _ => cl_right HRTC.out now, fun _ => rfl⟩)
        have HD1 : Hid (∀ U, Below w4.heap.size w4 U → Calls Try.prog 19 #[.slice A4 M4.length c4, ablv a, .int .i64 now] U fun e w' => e = .returned (.int .i64 r1) ∧ Below U.heap.size U w') := Lib.hid (fun U hU => (HRR4.out.of hU).ready a now r1 HCH.out (by rw [cl_way HRTC.out (Int.le_refl now)]; exact hr1))
        have HD2 : Hid (∀ U, Below w4.heap.size w4 U → Calls Try.prog 19 #[.slice A l.length cp, ablv a, .int .i64 now] U fun e w' => e = .returned (.int .i64 r1) ∧ Below U.heap.size U w') := Lib.hid (fun U hU => (HRR0.out.of hU).ready a now r1 HCH.out hr1)
        have HD3 : Hid (∀ U, Below w4.heap.size w4 U → Calls Try.prog 19 #[.slice A4 M4.length c4, ablv a, .int .i64 later] U fun e w' => e = .returned (.int .i64 r2) ∧ Below U.heap.size U w') := Lib.hid (fun U hU => (HRR4.out.of hU).ready a later r2 HCH.out (by rw [cl_way HRTC.out HNL.out]; exact hr2))
        have HD4 : Hid (∀ U, Below w4.heap.size w4 U → Calls Try.prog 19 #[.slice A l.length cp, ablv a, .int .i64 later] U fun e w' => e = .returned (.int .i64 r2) ∧ Below U.heap.size U w') := Lib.hid (fun U hU => (HRR0.out.of hU).ready a later r2 HCH.out hr2)
        have HC1 : Hid (∀ U, Below w4.heap.size w4 U → Calls Try.prog 12 #[.slice A4 M4.length c4, .int .i64 later] U (CkO U (clI (l.map Co.pl) later))) := Lib.hid (fun U hU => (HRR4.out.of hU).clean later (cl_cl HNL.out _))
        have HC2 : Hid (∀ U, Below w4.heap.size w4 U → Calls Try.prog 12 #[.slice A l.length cp, .int .i64 later] U (CkO U (clI (l.map Co.pl) later))) := Lib.hid (fun U hU => (HRR0.out.of hU).clean later rfl)
        have HV0 := HW4
        clear hr1 hr2 hM4 hK4 hC4 hB4 hB1 hB2 hB3
        generalize w4 = V at *
        have hS0 : Below V.heap.size V V.drew := (Below.refl _ _).drew
        refine wp_region_noPanic ?_
        refine wp_region_held_drew (S := fun w' => Below V.heap.size V w') (by kernel_rfl) hS0 (fun _ => ?_)
        generalize V.drew = v0 at hS0 ⊢
        refine wpAnyH_take (i := 0) (oi := ⟨some 31, Op.move (Operand.tmp 9), 4, _, _, none⟩) (v := ?va0) rfl (by kernel_rfl) (by kernel_rfl) (by kernel_rfl) (fun _ _ _ h => h) (Or.inl ⟨by rfl, ?ha0⟩) hS0 ?ra0
        case ha0 => (intro wz hSw; go_simp <;> with_reducible rfl)
        (try simp only [Act.put, List.setIfInBounds_toArray, List.set_cons_zero, List.set_cons_succ])
        refine wpAnyH_take (i := 1) (oi := ⟨some 32, Op.move (Operand.tmp 31), 4, _, _, none⟩) (v := ?va1) rfl (by kernel_rfl) (by kernel_rfl) (by kernel_rfl) (fun _ _ _ h => h) (Or.inl ⟨by rfl, ?ha1⟩) hS0 ?ra1
        case ha1 => (intro wz hSw; go_simp <;> with_reducible rfl)
        (try simp only [Act.put, List.setIfInBounds_toArray, List.set_cons_zero, List.set_cons_succ])
        refine wpAnyH_take (i := 2) (oi := ⟨some 33, Op.move (Operand.tmp 11), 22, _, _, some (1, true)⟩) (v := ?va2) rfl (by kernel_rfl) (by kernel_rfl) (by kernel_rfl) (fun _ _ _ h => h) (Or.inl ⟨by rfl, ?ha2⟩) hS0 ?ra2
        case ha2 => (intro wz hSw; go_simp <;> with_reducible rfl)
        (try simp only [Act.put, List.setIfInBounds_toArray, List.set_cons_zero, List.set_cons_succ])
        refine wpAnyH_ready (rs := [3]) (by kernel_rfl) (by simp) ?_
        refine AllReadyH.cons (o := ⟨some 34, Op.call { callee := Callee.value (Operand.func 17), args := #[Operand.tmp 33], argTypes := #[22] }, 4, _, _, some (1, true)⟩) rfl (fun K hK => ?_) AllReadyH.nil
        go_simp
        (with_reducible refine (HR1.out v0 hS0).mono ?_); rintro e v1 ⟨rfl, hB⟩; have hS1 : Below V.heap.size V v1 := hS0.trans (hB.mono hS0.size)
        refine hK.out _ _ hS1 (fun _ => ?_)
        clear hK K
        (try simp only [Act.put, List.setIfInBounds_toArray, List.set_cons_zero, List.set_cons_succ])
        refine wpAnyH_take (i := 4) (oi := ⟨some 35, Op.pick (Operand.tmp 32) (Operand.tmp 34) (Operand.const (Value.bool false)), 4, _, _, none⟩) (v := ?va4) rfl (by kernel_rfl) (by kernel_rfl) (by kernel_rfl) (fun _ _ _ h => h) (Or.inl ⟨by rfl, ?ha4⟩) hS1 ?ra4
        case ha4 => (intro wz hSw; go_simp <;> with_reducible rfl)
        (try simp only [Act.put, List.setIfInBounds_toArray, List.set_cons_zero, List.set_cons_succ])
        refine wpAnyH_take (i := 5) (oi := ⟨some 36, Op.move (Operand.tmp 35), 4, _, _, none⟩) (v := ?va5) rfl (by kernel_rfl) (by kernel_rfl) (by kernel_rfl) (fun _ _ _ h => h) (Or.inl ⟨by rfl, ?ha5⟩) hS1 ?ra5
        case ha5 => (intro wz hSw; go_simp <;> with_reducible rfl)
        (try simp only [Act.put, List.setIfInBounds_toArray, List.set_cons_zero, List.set_cons_succ])
        refine wpAnyH_take (i := 6) (oi := ⟨some 37, Op.move (Operand.tmp 11), 22, _, _, some (5, true)⟩) (v := ?va6) rfl (by kernel_rfl) (by kernel_rfl) (by kernel_rfl) (fun _ _ _ h => h) (Or.inl ⟨by rfl, ?ha6⟩) hS1 ?ra6
        case ha6 => (intro wz hSw; go_simp <;> with_reducible rfl)
        (try simp only [Act.put, List.setIfInBounds_toArray, List.set_cons_zero, List.set_cons_succ])
        refine wpAnyH_take (i := 7) (oi := ⟨some 38, Op.load 25 (Operand.tmp 5), 25, _, _, some (5, true)⟩) (v := ?va7) rfl (by kernel_rfl) (by kernel_rfl) (by kernel_rfl) (fun _ _ _ h => h) (Or.inl ⟨by rfl, ?ha7⟩) hS1 ?ra7
        case ha7 => (intro wz hSw; have z0 := (HZ.out wz hSw).2; have z1 := (HZ.out wz hSw).1; go_simp <;> with_reducible rfl)
        (try simp only [Act.put, List.setIfInBounds_toArray, List.set_cons_zero, List.set_cons_succ])
        refine wpAnyH_take (i := 8) (oi := ⟨some 39, Op.move (Operand.tmp 2), 3, _, _, some (5, true)⟩) (v := ?va8) rfl (by kernel_rfl) (by kernel_rfl) (by kernel_rfl) (fun _ _ _ h => h) (Or.inl ⟨by rfl, ?ha8⟩) hS1 ?ra8
        case ha8 => (intro wz hSw; go_simp <;> with_reducible rfl)
        (try simp only [Act.put, List.setIfInBounds_toArray, List.set_cons_zero, List.set_cons_succ])
        refine wpAnyH_take (i := 10) (oi := ⟨some 41, Op.move (Operand.tmp 0), 22, _, _, some (5, true)⟩) (v := ?va10) rfl (by kernel_rfl) (by kernel_rfl) (by kernel_rfl) (fun _ _ _ h => h) (Or.inl ⟨by rfl, ?ha10⟩) hS1 ?ra10
        case ha10 => (intro wz hSw; go_simp <;> with_reducible rfl)
        (try simp only [Act.put, List.setIfInBounds_toArray, List.set_cons_zero, List.set_cons_succ])
        refine wpAnyH_take (i := 11) (oi := ⟨some 42, Op.load 25 (Operand.tmp 5), 25, _, _, some (5, true)⟩) (v := ?va11) rfl (by kernel_rfl) (by kernel_rfl) (by kernel_rfl) (fun _ _ _ h => h) (Or.inl ⟨by rfl, ?ha11⟩) hS1 ?ra11
        case ha11 => (intro wz hSw; have z0 := (HZ.out wz hSw).2; have z1 := (HZ.out wz hSw).1; go_simp <;> with_reducible rfl)
        (try simp only [Act.put, List.setIfInBounds_toArray, List.set_cons_zero, List.set_cons_succ])
        refine wpAnyH_take (i := 12) (oi := ⟨some 43, Op.move (Operand.tmp 2), 3, _, _, some (5, true)⟩) (v := ?va12) rfl (by kernel_rfl) (by kernel_rfl) (by kernel_rfl) (fun _ _ _ h => h) (Or.inl ⟨by rfl, ?ha12⟩) hS1 ?ra12
        case ha12 => (intro wz hSw; go_simp <;> with_reducible rfl)
        (try simp only [Act.put, List.setIfInBounds_toArray, List.set_cons_zero, List.set_cons_succ])
        refine wpAnyH_ready (rs := [9]) (by kernel_rfl) (by simp) ?_
        refine AllReadyH.cons (o := ⟨some 40, Op.call { callee := Callee.value (Operand.func 19), args := #[Operand.tmp 37, Operand.tmp 38, Operand.tmp 39], argTypes := #[22, 25, 3] }, 3, _, _, some (5, true)⟩) rfl (fun K hK => ?_) AllReadyH.nil
        go_simp
        (with_reducible refine (HD1.out v1 hS1).mono ?_); rintro e v2 ⟨rfl, hB⟩; have hS2 : Below V.heap.size V v2 := hS1.trans (hB.mono hS1.size)
        refine hK.out _ _ hS2 (fun _ => ?_)
        clear hK K
        (try simp only [Act.put, List.setIfInBounds_toArray, List.set_cons_zero, List.set_cons_succ])
        refine wpAnyH_ready (rs := [13]) (by kernel_rfl) (by simp) ?_
        refine AllReadyH.cons (o := ⟨some 44, Op.call { callee := Callee.value (Operand.func 19), args := #[Operand.tmp 41, Operand.tmp 42, Operand.tmp 43], argTypes := #[22, 25, 3] }, 3, _, _, some (5, true)⟩) rfl (fun K hK => ?_) AllReadyH.nil
        go_simp
        (with_reducible refine (HD2.out v2 hS2).mono ?_); rintro e v3 ⟨rfl, hB⟩; have hS3 : Below V.heap.size V v3 := hS2.trans (hB.mono hS2.size)
        refine hK.out _ _ hS3 (fun _ => ?_)
        clear hK K
        (try simp only [Act.put, List.setIfInBounds_toArray, List.set_cons_zero, List.set_cons_succ])
        refine wpAnyH_take (i := 14) (oi := ⟨some 45, Op.binOp BinOp.eql 3 (Operand.tmp 40) (Operand.tmp 44) 3, 4, _, _, some (5, true)⟩) (v := ?va14) rfl (by kernel_rfl) (by kernel_rfl) (by kernel_rfl) (fun _ _ _ h => h) (Or.inl ⟨by rfl, ?ha14⟩) hS3 ?ra14
        case ha14 => (intro wz hSw; go_simp <;> with_reducible rfl)
        (try simp only [Act.put, List.setIfInBounds_toArray, List.set_cons_zero, List.set_cons_succ])
        refine wpAnyH_take (i := 15) (oi := ⟨some 46, Op.pick (Operand.tmp 36) (Operand.tmp 45) (Operand.const (Value.bool false)), 4, _, _, none⟩) (v := ?va15) rfl (by kernel_rfl) (by kernel_rfl) (by kernel_rfl) (fun _ _ _ h => h) (Or.inl ⟨by rfl, ?ha15⟩) hS3 ?ra15
        case ha15 => (intro wz hSw; go_simp <;> with_reducible rfl)
        (try simp only [Act.put, List.setIfInBounds_toArray, List.set_cons_zero, List.set_cons_succ])
        refine wpAnyH_take (i := 16) (oi := ⟨some 47, Op.move (Operand.tmp 46), 4, _, _, none⟩) (v := ?va16) rfl (by kernel_rfl) (by kernel_rfl) (by kernel_rfl) (fun _ _ _ h => h) (Or.inl ⟨by rfl, ?ha16⟩) hS3 ?ra16
        case ha16 => (intro wz hSw; go_simp <;> with_reducible rfl)
        (try simp only [Act.put, List.setIfInBounds_toArray, List.set_cons_zero, List.set_cons_succ])
        refine wpAnyH_take (i := 17) (oi := ⟨some 48, Op.move (Operand.tmp 11), 22, _, _, some (16, true)⟩) (v := ?va17) rfl (by kernel_rfl) (by kernel_rfl) (by kernel_rfl) (fun _ _ _ h => h) (Or.inl ⟨by rfl, ?ha17⟩) hS3 ?ra17
        case ha17 => (intro wz hSw; go_simp <;> with_reducible rfl)
        (try simp only [Act.put, List.setIfInBounds_toArray, List.set_cons_zero, List.set_cons_succ])
        refine wpAnyH_take (i := 18) (oi := ⟨some 49, Op.load 25 (Operand.tmp 5), 25, _, _, some (16, true)⟩) (v := ?va18) rfl (by kernel_rfl) (by kernel_rfl) (by kernel_rfl) (fun _ _ _ h => h) (Or.inl ⟨by rfl, ?ha18⟩) hS3 ?ra18
        case ha18 => (intro wz hSw; have z0 := (HZ.out wz hSw).2; have z1 := (HZ.out wz hSw).1; go_simp <;> with_reducible rfl)
        (try simp only [Act.put, List.setIfInBounds_toArray, List.set_cons_zero, List.set_cons_succ])
        refine wpAnyH_take (i := 19) (oi := ⟨some 50, Op.move (Operand.tmp 3), 3, _, _, some (16, true)⟩) (v := ?va19) rfl (by kernel_rfl) (by kernel_rfl) (by kernel_rfl) (fun _ _ _ h => h) (Or.inl ⟨by rfl, ?ha19⟩) hS3 ?ra19
        case ha19 => (intro wz hSw; go_simp <;> with_reducible rfl)
        (try simp only [Act.put, List.setIfInBounds_toArray, List.set_cons_zero, List.set_cons_succ])
        refine wpAnyH_take (i := 21) (oi := ⟨some 52, Op.move (Operand.tmp 0), 22, _, _, some (16, true)⟩) (v := ?va21) rfl (by kernel_rfl) (by kernel_rfl) (by kernel_rfl) (fun _ _ _ h => h) (Or.inl ⟨by rfl, ?ha21⟩) hS3 ?ra21
        case ha21 => (intro wz hSw; go_simp <;> with_reducible rfl)
        (try simp only [Act.put, List.setIfInBounds_toArray, List.set_cons_zero, List.set_cons_succ])
        refine wpAnyH_take (i := 22) (oi := ⟨some 53, Op.load 25 (Operand.tmp 5), 25, _, _, some (16, true)⟩) (v := ?va22) rfl (by kernel_rfl) (by kernel_rfl) (by kernel_rfl) (fun _ _ _ h => h) (Or.inl ⟨by rfl, ?ha22⟩) hS3 ?ra22
        case ha22 => (intro wz hSw; have z0 := (HZ.out wz hSw).2; have z1 := (HZ.out wz hSw).1; go_simp <;> with_reducible rfl)
        (try simp only [Act.put, List.setIfInBounds_toArray, List.set_cons_zero, List.set_cons_succ])
        refine wpAnyH_take (i := 23) (oi := ⟨some 54, Op.move (Operand.tmp 3), 3, _, _, some (16, true)⟩) (v := ?va23) rfl (by kernel_rfl) (by kernel_rfl) (by kernel_rfl) (fun _ _ _ h => h) (Or.inl ⟨by rfl, ?ha23⟩) hS3 ?ra23
        case ha23 => (intro wz hSw; go_simp <;> with_reducible rfl)
        (try simp only [Act.put, List.setIfInBounds_toArray, List.set_cons_zero, List.set_cons_succ])
        refine wpAnyH_ready (rs := [20]) (by kernel_rfl) (by simp) ?_
        refine AllReadyH.cons (o := ⟨some 51, Op.call { callee := Callee.value (Operand.func 19), args := #[Operand.tmp 48, Operand.tmp 49, Operand.tmp 50], argTypes := #[22, 25, 3] }, 3, _, _, some (16, true)⟩) rfl (fun K hK => ?_) AllReadyH.nil
        go_simp
        (with_reducible refine (HD3.out v3 hS3).mono ?_); rintro e v4 ⟨rfl, hB⟩; have hS4 : Below V.heap.size V v4 := hS3.trans (hB.mono hS3.size)
        refine hK.out _ _ hS4 (fun _ => ?_)
        clear hK K
        (try simp only [Act.put, List.setIfInBounds_toArray, List.set_cons_zero, List.set_cons_succ])
        refine wpAnyH_ready (rs := [24]) (by kernel_rfl) (by simp) ?_
        refine AllReadyH.cons (o := ⟨some 55, Op.call { callee := Callee.value (Operand.func 19), args := #[Operand.tmp 52, Operand.tmp 53, Operand.tmp 54], argTypes := #[22, 25, 3] }, 3, _, _, some (16, true)⟩) rfl (fun K hK => ?_) AllReadyH.nil
        go_simp
        (with_reducible refine (HD4.out v4 hS4).mono ?_); rintro e v5 ⟨rfl, hB⟩; have hS5 : Below V.heap.size V v5 := hS4.trans (hB.mono hS4.size)
        refine hK.out _ _ hS5 (fun _ => ?_)
        clear hK K
        (try simp only [Act.put, List.setIfInBounds_toArray, List.set_cons_zero, List.set_cons_succ])
        refine wpAnyH_take (i := 25) (oi := ⟨some 56, Op.binOp BinOp.eql 3 (Operand.tmp 51) (Operand.tmp 55) 3, 4, _, _, some (16, true)⟩) (v := ?va25) rfl (by kernel_rfl) (by kernel_rfl) (by kernel_rfl) (fun _ _ _ h => h) (Or.inl ⟨by rfl, ?ha25⟩) hS5 ?ra25
        case ha25 => (intro wz hSw; go_simp <;> with_reducible rfl)
        (try simp only [Act.put, List.setIfInBounds_toArray, List.set_cons_zero, List.set_cons_succ])
        refine wpAnyH_take (i := 26) (oi := ⟨some 57, Op.pick (Operand.tmp 47) (Operand.tmp 56) (Operand.const (Value.bool false)), 4, _, _, none⟩) (v := ?va26) rfl (by kernel_rfl) (by kernel_rfl) (by kernel_rfl) (fun _ _ _ h => h) (Or.inl ⟨by rfl, ?ha26⟩) hS5 ?ra26
        case ha26 => (intro wz hSw; go_simp <;> with_reducible rfl)
        (try simp only [Act.put, List.setIfInBounds_toArray, List.set_cons_zero, List.set_cons_succ])
        refine wpAnyH_take (i := 27) (oi := ⟨some 58, Op.move (Operand.tmp 57), 4, _, _, none⟩) (v := ?va27) rfl (by kernel_rfl) (by kernel_rfl) (by kernel_rfl) (fun _ _ _ h => h) (Or.inl ⟨by rfl, ?ha27⟩) hS5 ?ra27
        case ha27 => (intro wz hSw; go_simp <;> with_reducible rfl)
        (try simp only [Act.put, List.setIfInBounds_toArray, List.set_cons_zero, List.set_cons_succ])
        refine wpAnyH_take (i := 28) (oi := ⟨some 59, Op.move (Operand.tmp 11), 22, _, _, some (27, true)⟩) (v := ?va28) rfl (by kernel_rfl) (by kernel_rfl) (by kernel_rfl) (fun _ _ _ h => h) (Or.inl ⟨by rfl, ?ha28⟩) hS5 ?ra28
        case ha28 => (intro wz hSw; go_simp <;> with_reducible rfl)
        (try simp only [Act.put, List.setIfInBounds_toArray, List.set_cons_zero, List.set_cons_succ])
        refine wpAnyH_take (i := 29) (oi := ⟨some 60, Op.move (Operand.tmp 3), 3, _, _, some (27, true)⟩) (v := ?va29) rfl (by kernel_rfl) (by kernel_rfl) (by kernel_rfl) (fun _ _ _ h => h) (Or.inl ⟨by rfl, ?ha29⟩) hS5 ?ra29
        case ha29 => (intro wz hSw; go_simp <;> with_reducible rfl)
        (try simp only [Act.put, List.setIfInBounds_toArray, List.set_cons_zero, List.set_cons_succ])
        refine wpAnyH_take (i := 31) (oi := ⟨some 62, Op.move (Operand.tmp 0), 22, _, _, some (27, true)⟩) (v := ?va31) rfl (by kernel_rfl) (by kernel_rfl) (by kernel_rfl) (fun _ _ _ h => h) (Or.inl ⟨by rfl, ?ha31⟩) hS5 ?ra31
        case ha31 => (intro wz hSw; go_simp <;> with_reducible rfl)
        (try simp only [Act.put, List.setIfInBounds_toArray, List.set_cons_zero, List.set_cons_succ])
        refine wpAnyH_take (i := 32) (oi := ⟨some 63, Op.move (Operand.tmp 3), 3, _, _, some (27, true)⟩) (v := ?va32) rfl (by kernel_rfl) (by kernel_rfl) (by kernel_rfl) (fun _ _ _ h => h) (Or.inl ⟨by rfl, ?ha32⟩) hS5 ?ra32
        case ha32 => (intro wz hSw; go_simp <;> with_reducible rfl)
        (try simp only [Act.put, List.setIfInBounds_toArray, List.set_cons_zero, List.set_cons_succ])
        refine wpAnyH_ready (rs := [30]) (by kernel_rfl) (by simp) ?_
        refine AllReadyH.cons (o := ⟨some 61, Op.call { callee := Callee.value (Operand.func 12), args := #[Operand.tmp 59, Operand.tmp 60], argTypes := #[22, 3] }, 22, _, _, some (27, true)⟩) rfl (fun K hK => ?_) AllReadyH.nil
        go_simp
        (with_reducible refine (HC1.out v5 hS5).mono ?_); rintro e v6 ⟨A5, c5, M5, rfl, hM5, hK5, hC5, hBo⟩; have hS6 : Below V.heap.size V v6 := hS5.trans (hBo.out.mono hS5.size); have HRR5 : RR v6 A5 M5 (clI (l.map Co.pl) later) := RR.mk' hK5.out.kr hM5.out hC5.out HSH.out HLE.out
        refine hK.out _ _ hS6 (fun _ => ?_)
        clear hK K
        (try simp only [Act.put, List.setIfInBounds_toArray, List.set_cons_zero, List.set_cons_succ])
        refine wpAnyH_ready (rs := [33]) (by kernel_rfl) (by simp) ?_
        refine AllReadyH.cons (o := ⟨some 64, Op.call { callee := Callee.value (Operand.func 12), args := #[Operand.tmp 62, Operand.tmp 63], argTypes := #[22, 3] }, 22, _, _, some (27, true)⟩) rfl (fun K hK => ?_) AllReadyH.nil
        go_simp
        (with_reducible refine (HC2.out v6 hS6).mono ?_); rintro e v7 ⟨A6, c6, M6, rfl, hM6, hK6, hC6, hBo2⟩; have hS7 : Below V.heap.size V v7 := hS6.trans (hBo2.out.mono hS6.size); have HRR6 := HRR5.of hBo2.out
        refine hK.out _ _ hS7 (fun _ => ?_)
        clear hK K
        (try simp only [Act.put, List.setIfInBounds_toArray, List.set_cons_zero, List.set_cons_succ])
        refine wpAnyH_ready (rs := [34]) (by kernel_rfl) (by simp) ?_
        refine AllReadyH.cons (o := ⟨some 65, Op.call { callee := Callee.value (Operand.func 14), args := #[Operand.tmp 61, Operand.tmp 64], argTypes := #[22, 22] }, 4, _, _, some (27, true)⟩) rfl (fun K hK => ?_) AllReadyH.nil
        go_simp
        (with_reducible refine (HRR6.same (c := c5) (c' := c6) hK6.out.kr hM6.out).mono ?_); rintro e v8 ⟨rfl, hB⟩; have hS8 : Below V.heap.size V v8 := hS7.trans (hB.mono hS7.size)
        refine hK.out _ _ hS8 (fun _ => ?_)
        clear hK K
        (try simp only [Act.put, List.setIfInBounds_toArray, List.set_cons_zero, List.set_cons_succ])
        refine wpAnyH_take (i := 35) (oi := ⟨some 66, Op.pick (Operand.tmp 58) (Operand.tmp 65) (Operand.const (Value.bool false)), 4, _, _, none⟩) (v := ?va35) rfl (by kernel_rfl) (by kernel_rfl) (by kernel_rfl) (fun _ _ _ h => h) (Or.inl ⟨by rfl, ?ha35⟩) hS8 ?ra35
        case ha35 => (intro wz hSw; go_simp <;> with_reducible rfl)
        (try simp only [Act.put, List.setIfInBounds_toArray, List.set_cons_zero, List.set_cons_succ])
        refine wpAnyH_take (i := 36) (oi := ⟨some 67, Op.move (Operand.tmp 66), 4, _, _, none⟩) (v := ?va36) rfl (by kernel_rfl) (by kernel_rfl) (by kernel_rfl) (fun _ _ _ h => h) (Or.inl ⟨by rfl, ?ha36⟩) hS8 ?ra36
        case ha36 => (intro wz hSw; go_simp <;> with_reducible rfl)
        (try simp only [Act.put, List.setIfInBounds_toArray, List.set_cons_zero, List.set_cons_succ])
        refine wpAnyH_take (i := 37) (oi := ⟨some 68, Op.move (Operand.tmp 11), 22, _, _, some (36, true)⟩) (v := ?va37) rfl (by kernel_rfl) (by kernel_rfl) (by kernel_rfl) (fun _ _ _ h => h) (Or.inl ⟨by rfl, ?ha37⟩) hS8 ?ra37
        case ha37 => (intro wz hSw; go_simp <;> with_reducible rfl)
        (try simp only [Act.put, List.setIfInBounds_toArray, List.set_cons_zero, List.set_cons_succ])
        refine wpAnyH_take (i := 38) (oi := ⟨some 69, Op.call { callee := Callee.builtin Builtin.len, args := #[Operand.tmp 68], argTypes := #[22] }, 3, _, _, some (36, true)⟩) (v := ?va38) rfl (by kernel_rfl) (by kernel_rfl) (by kernel_rfl) (fun _ _ _ h => h) (Or.inl ⟨by rfl, ?ha38⟩) hS8 ?ra38
        case ha38 => (intro wz hSw; go_simp <;> with_reducible rfl)
        (try simp only [Act.put, List.setIfInBounds_toArray, List.set_cons_zero, List.set_cons_succ])
        refine wpAnyH_take (i := 39) (oi := ⟨some 70, Op.move (Operand.tmp 0), 22, _, _, some (36, true)⟩) (v := ?va39) rfl (by kernel_rfl) (by kernel_rfl) (by kernel_rfl) (fun _ _ _ h => h) (Or.inl ⟨by rfl, ?ha39⟩) hS8 ?ra39
        case ha39 => (intro wz hSw; go_simp <;> with_reducible rfl)
        (try simp only [Act.put, List.setIfInBounds_toArray, List.set_cons_zero, List.set_cons_succ])
        refine wpAnyH_take (i := 40) (oi := ⟨some 71, Op.call { callee := Callee.builtin Builtin.len, args := #[Operand.tmp 70], argTypes := #[22] }, 3, _, _, some (36, true)⟩) (v := ?va40) rfl (by kernel_rfl) (by kernel_rfl) (by kernel_rfl) (fun _ _ _ h => h) (Or.inl ⟨by rfl, ?ha40⟩) hS8 ?ra40
        case ha40 => (intro wz hSw; go_simp <;> with_reducible rfl)
        (try simp only [Act.put, List.setIfInBounds_toArray, List.set_cons_zero, List.set_cons_succ])
        refine wpAnyH_take (i := 41) (oi := ⟨some 72, Op.binOp BinOp.leq 3 (Operand.tmp 69) (Operand.tmp 71) 3, 4, _, _, some (36, true)⟩) (v := ?va41) rfl (by kernel_rfl) (by kernel_rfl) (by kernel_rfl) (fun _ _ _ h => h) (Or.inl ⟨by rfl, ?ha41⟩) hS8 ?ra41
        case ha41 => (intro wz hSw; go_simp <;> with_reducible rfl)
        (try simp only [Act.put, List.setIfInBounds_toArray, List.set_cons_zero, List.set_cons_succ])
        refine wpAnyH_take (i := 42) (oi := ⟨some 73, Op.pick (Operand.tmp 67) (Operand.tmp 72) (Operand.const (Value.bool false)), 4, _, _, none⟩) (v := ?va42) rfl (by kernel_rfl) (by kernel_rfl) (by kernel_rfl) (fun _ _ _ h => h) (Or.inl ⟨by rfl, ?ha42⟩) hS8 ?ra42
        case ha42 => (intro wz hSw; go_simp <;> with_reducible rfl)
        (try simp only [Act.put, List.setIfInBounds_toArray, List.set_cons_zero, List.set_cons_succ])
        refine wpAnyH_take (i := 43) (oi := ⟨some 8, Op.assign (Operand.tmp 73), 4, _, _, none⟩) (v := ?va43) rfl (by kernel_rfl) (by kernel_rfl) (by kernel_rfl) (fun _ _ _ h => h) (Or.inl ⟨by rfl, ?ha43⟩) hS8 ?ra43
        case ha43 => (intro wz hSw; go_simp <;> with_reducible rfl)
        (try simp only [Act.put, List.setIfInBounds_toArray, List.set_cons_zero, List.set_cons_succ])
        refine wpAnyH_done (by kernel_rfl) ?_ _
        refine NoPanic.normal ?_
        have HFIN := Lib.hid hS8
        clear hS0 hS1 hS2 hS3 hS4 hS5 hS6 hS7 hS8
        go_wp2
        go_ret
        exact ⟨rfl, HV0.out.trans (HFIN.out.mono HV0.out.size)⟩


set_option maxRecDepth 100000 in
theorem lifted (os : Os) (started : os.Started) (H : Type) (enc : TypeId × Value → H) :
    ReturnsInHanded {} Try.checked os 6 .any (Rows.coolCleansSpec.pre6 enc Try.prog Try.f6 Rows.coolCleansRow.domain false) (Rows.coolCleansSpec.post enc Try.prog Try.f6 false true false false) := by
  refine returnsInHanded_of_change (C := Try.checked) own started (by kernel_rfl) Try.func6
    (ChangeSpec.witness6 (enc := enc) (C := Try.checked) false ⟨#[], #[.slice none 0 0, .agg #[.int .i64 0, .int .i64 0, .int .i64 0, .int .i64 0, .int .i64 0, .int .i64 0, .bool false, .slice none 0 0], .int .i64 0, .int .i64 0], []⟩ 8 (by kernel_rfl) (by kernel_rfl) (by kernel_rfl) (by kernel_rfl)) ?_
  intro W base args ds gs before hval0 hW hcnd _
  have hval : ∀ (j : Nat) t v, Try.f6.params[j]? = some t → args[j]? = some v → Value.okWide Try.prog W .any base t v := hval0
  have hW' := hW
  obtain ⟨p, q, hA0, hV, rfl, hfz, hnd⟩ := hW
  have hA : DataW.TrodAll enc Try.prog W 0 (fun _ => true) true Try.f6.params.toList args.toList ds p := hA0
  rw [Try.params6] at hA hval
  obtain ⟨v0, vs0, d0, ds0, p0, q0, hargs, rfl, rfl, h0, r0⟩ := trodAll_cons hA
  obtain ⟨v1, vs1, d1, ds1, p1, q1, rfl, rfl, rfl, h1, r1⟩ := trodAll_cons r0
  obtain ⟨v2, vs2, d2, ds2, p2, q2, rfl, rfl, rfl, h2, r2⟩ := trodAll_cons r1
  obtain ⟨v3, vs3, d3, ds3, p3, q3, rfl, rfl, rfl, h3, r3⟩ := trodAll_cons r2
  obtain ⟨rfl, rfl, rfl⟩ := trodAll_nil r3
  obtain rfl : args = #[v0, v1, v2, v3] := by cases args; simp_all
  obtain ⟨rfl, rfl⟩ := trodVars_none hV
  clear hA0 hval0
  have hlt0 : ∀ x ∈ p0, x.block < W.heap.size := fun x hx => hW'.lt x (by simp [hx])
  have hk0 := h0
  obtain ⟨A0, c0, l0, rfl, hc0, hr0, hf0⟩ := Opn.viewCo (hval 0 22 v0 rfl rfl) h0
  have hlt1 : ∀ x ∈ p1, x.block < W.heap.size := fun x hx => hW'.lt x (by simp [hx])
  have hk1 := h1
  obtain ⟨a1, rfl, hf1⟩ := Opn.viewA (hval 1 25 v1 rfl rfl) h1
  obtain ⟨a2, rfl, rfl, rfl, w2⟩ := open_int Try.underlying3 (hval 2 3 v2 rfl rfl) h2
  obtain ⟨a3, rfl, rfl, rfl, w3⟩ := open_int Try.underlying3 (hval 3 3 v3 rfl rfl) h3
  simp only [List.append_nil] at hW'
  refine (walk W A0 c0 l0 hc0 hr0 hf0 a1 hf1 a2 (Kop.fits_of w2) a3 (Kop.fits_of w3)).mono fun e W' ⟨he, hg⟩ => ?_
  subst he
  exact ⟨_, rfl, _, _, _, [], _, [], hW', (trodAll_cons_mk (shut_bool Try.underlying4 _) trodAll_mk0), (trodAll_cons_mk (Below.trod Kop.laidOut (by kernel_rfl) (of_decide_eq_true (by kernel_rfl)) hk0 hg hlt0) (trodAll_cons_mk (Below.trod Kop.laidOut (by kernel_rfl) (of_decide_eq_true (by kernel_rfl)) hk1 hg hlt1) (trodAll_cons_mk (shut_int Try.underlying3 w2) (trodAll_cons_mk (shut_int Try.underlying3 w3) trodAll_mk0)))), rfl, hg.frame _, fun h => by cases h⟩

theorem over : Rows.coolCleansRow.holds Try.pinned (OpenSpec.ofChange Rows.coolCleansSpec) :=
  OpenClaim.holds_of_wide 6 Try.f6 rfl rfl rfl rfl rfl rfl rfl ⟨rfl, rfl, rfl, rfl, rfl⟩ rfl rfl rfl rfl rfl (by kernel_rfl) Try.func6 (by kernel_rfl)
    (of_decide_eq_true (by kernel_rfl)) (by unfold Func.isWrapper; first | (rw [if_pos (by decide +kernel)]; kernel_rfl) | (rw [if_neg (by decide +kernel)]; exact ⟨rfl, rfl⟩))
    (fun os started H enc _ => lifted os started H enc)

/-- The given statement. -/
theorem proved : Rows.CoolCleansSaid :=
  over
#print axioms proved
end Go.Proofs.Ytmdnjkiciaidiaa.coolCleans
