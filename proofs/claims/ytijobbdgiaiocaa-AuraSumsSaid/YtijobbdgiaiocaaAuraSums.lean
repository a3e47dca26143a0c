/-
  The law of sums: what auras of a kind come to, and what their shields take away, is what the document says; what was handed in stays.
-/
import Derived.Test.YtijobbdgiaiocaaSma
import Derived.Test.YtijobbdgiaiocaaDcb
import Derived.Test.YtijobbdgiaiocaaDce
import Derived.Test.YtijobbdgiaiocaaFew
import Derived.Test.YtijobbdgiaiocaaOpen
import Derived.Test.YtijobbdgiaiocaaKop
import Derived.WalkKit
import Derived.ProofKit
import Derived.OpenShut
namespace Go.Proofs.Ytijobbdgiaiocaa.auraSums
open Go.ChangeShapes Go.WideShapes Go.ChangeAt Go.RowKit Con
set_option linter.unusedVariables false

theorem own : ownKnob Try.prog.godebug = none := by kernel_rfl

set_option maxRecDepth 20000 in
set_option maxHeartbeats 4000000 in
theorem walk (w : World) (c : Cn) (hr : RC w w.heap.size c) (hu : ∀ a ∈ c.au, NAu a) (A : Option Addr) (cp : Nat) (l : List Ac) (hrl : RW ac w w.heap.size A l) (hf : ∀ x ∈ l, FAc x) (kind : Int) (hk : Fits kind) (n : Int) (hn : Fits n) :
    Calls Try.prog 4 #[cnv c, .slice A l.length cp, .int .i64 kind, .int .i64 n] w fun e w' => e = .returned (.bool true) ∧ Below w.heap.size w w' := by
  have hb := below_box w (oCn c)
  obtain ⟨x, hx⟩ := bex (FewP c)
  have HX := Lib.hid hb; have HN := Lib.hid (heap_alloc_new w (oCn c)); have HR := Lib.hid (hrl.below hb (Nat.le_refl _)); have HRC := Lib.hid (hr.below hb (Nat.le_refl _))
  have HLT : Hid (w.heap.size < (w.alloc (oCn c)).heap.size) := Lib.hid (by simp)
  have HAU := Lib.hid hu; have HAC : Hid (∀ a ∈ l, NAc a) := Lib.hid (fun a ha => (hf a ha).nac)
  have HQ := Lib.hid hx
  have HSmall := Lib.hid (small_any (w.alloc (oCn c)))
  clear hr hu hrl hf hb hx hk
  obtain ⟨N, hN⟩ : ∃ N, l.length = N := ⟨_, rfl⟩
  have HLN := Lib.hid hN
  rw [hN]
  clear hN
  go_enter Try.func4, Try.ntmps4
  cases x with
  | false =>
    go_wp2_with (first
      | ((with_reducible refine HSmall.out.mono ?_); rintro e w1 ⟨rfl, hB1⟩; have hcb := hkeep1 hB1 HLT.out HN.out; have z1 := cellOf1 hcb; have l1 := lt_blk1 hcb; have HF := Lib.hid (few_c c (HRC.out.below hB1 (Nat.le_of_lt HLT.out)) (Nat.le_trans (Nat.le_of_lt HLT.out) hB1.size) false HQ.out))
      | ((with_reducible refine HF.out.mono ?_); rintro e w2 ⟨rfl, hB2⟩))
    go_ret
    exact ⟨rfl, HX.out.trans ((hB1.trans (hB2.mono hB1.size)).mono HX.out.size)⟩
  | true =>
    by_cases hbig : 60 < (N : Int)
    · go_wp2_with (first
        | ((with_reducible refine HSmall.out.mono ?_); rintro e w1 ⟨rfl, hB1⟩; have hcb := hkeep1 hB1 HLT.out HN.out; have z1 := cellOf1 hcb; have l1 := lt_blk1 hcb; have HF := Lib.hid (few_c c (HRC.out.below hB1 (Nat.le_of_lt HLT.out)) (Nat.le_trans (Nat.le_of_lt HLT.out) hB1.size) true HQ.out))
        | ((with_reducible refine HF.out.mono ?_); rintro e w2 ⟨rfl, hB2⟩))
      go_ret
      exact ⟨rfl, HX.out.trans ((hB1.trans (hB2.mono hB1.size)).mono HX.out.size)⟩
    · have hbig' : decide (60 < (N : Int)) = false := by simp; omega
      have HSm : Hid (Sm c) := Lib.hid (HQ.out.1 rfl).sm
      have HLL : Hid (([] : List Ac).length + l.length ≤ 1000000) := Lib.hid (by have := HLN.out; simp; omega)
      have HN60 : Hid (N ≤ 60) := Lib.hid (by omega)
      clear hbig
      obtain ⟨S, m, G, hTT⟩ : ∃ S m G, takeI (shK c.au l l.length) n = (S, m, G) := ⟨_, _, _, rfl⟩
      have HTT := Lib.hid hTT; have HNn := Lib.hid hn
      have HM : Hid ((taK S G l N).length ≤ 60) := Lib.hid (Nat.le_trans (ta_le N) HN60.out)
      have HTd : Hid (∀ U, RuC c U → RW ac U w.heap.size A l → w.heap.size ≤ U.heap.size → Calls Try.prog 21 #[cnv c, .slice A N cp, .int .i64 n] U (TaA U (taK S G l N) m)) := Lib.hid (fun U hU hR hB => rtake15_any n HTT.out hU HAC.out HLN.out (by have := HN60.out; omega) hR hB HNn.out)
      clear hTT
      generalize hMM : taK S G l N = M at HM HTd
      have HMM := Lib.hid hMM; clear hMM
      go_wp2_with (first
        | ((with_reducible refine HSmall.out.mono ?_); rintro e w1 ⟨rfl, hB1⟩; have hcb := hkeep1 hB1 HLT.out HN.out; have z1 := cellOf1 hcb; have l1 := lt_blk1 hcb; have HN1 := Lib.hid hcb; have HRC1 := Lib.hid (HRC.out.below hB1 (Nat.le_of_lt HLT.out)); have HR1 := Lib.hid (HR.out.below hB1 (Nat.le_of_lt HLT.out)); have HB1 := Lib.hid hB1; have HF := Lib.hid (few_c c HRC1.out (Nat.le_trans (Nat.le_of_lt HLT.out) hB1.size) true HQ.out); clear hB1 hcb)
        | ((with_reducible refine HF.out.mono ?_); rintro e w2 ⟨rfl, hB2⟩; have hC2 : Below w1.heap.size w1 (w2.alloc (.cells #[] 42)) := hB2.alloc hB2.size _; have HV2 : Hid (Below w.heap.size w (w2.alloc (.cells #[] 42))) := Lib.hid (HX.out.trans ((HB1.out.trans (hC2.mono HB1.out.size)).mono HX.out.size)); have HR2 := Lib.hid (HR1.out.below hC2 (Nat.le_trans (Nat.le_of_lt HLT.out) HB1.out.size)); have HRC2 := Lib.hid (HRC1.out.below hC2 (Nat.le_trans (Nat.le_of_lt HLT.out) HB1.out.size)); have HN2 := Lib.hid (hkeep1 hC2 l1 HN1.out); have HO2 := Lib.hid (OW.room ac w2); have HZ2 : Hid (w.heap.size ≤ w2.heap.size ∧ w.heap.size < w2.heap.size ∧ w1.heap.size ≤ w2.heap.size) := Lib.hid (by have := hB2.size; have := HV2.out.size; omega); clear z1 hC2)
        | (at_builtin; refine wpList_app ac rfl 32 rfl (.tmp 29) (.tmp 30) rfl w2.heap.size w.heap.size (.slice (some ⟨w2.heap.size, 0, none⟩) 0 0) [] l A cp N HLN.out rfl rfl HO2.out HR2.out HLL.out (by simp) ?_; intro A0 c0 w3 lm HLM HO3 HS3 HB3; have hB3 : Below w2.heap.size (w2.alloc (.cells #[] 42)) w3 := (Below.refl _ _).grown HS3.out (by simp) (fun j hj => (HO2.out.lt hj).1); have HV3 : Hid (Below w.heap.size w w3) := Lib.hid (HV2.out.trans (hB3.mono HZ2.out.1)); have HN3 := Lib.hid (hkeep1 hB3 HZ2.out.2.1 HN2.out); have z3 := cellOf1 HN3.out; have l3 := lt_blk1 HN3.out; have HR3 := Lib.hid (HR2.out.below hB3 HZ2.out.1); have HRC3 := Lib.hid (HRC2.out.below hB3 HZ2.out.1); have hlm : lm = l := (by have := HLM.out; simpa using this); subst hlm; have HI3 := Lib.hid HO3.out.pw.rw'; have HA3 := Lib.hid (auC HRC3.out HV3.out.size HSm.out); have HRu3 := Lib.hid (ruC HRC3.out HV3.out.size HSm.out); have hlN := HLN.out; rw [hlN]; have HTk := Lib.hid (take15_any (w := w3) (c := c) (l := lm) (n := N) (cp := c0) n HTT.out HA3.out HAC.out HLN.out (by have := HN60.out; omega) HI3.out (Nat.le_refl _) HNn.out); rw [HMM.out] at HTk)
        | ((with_reducible refine HTk.out.mono ?_); rintro e w4 ⟨A1, c1, rfl, HO4, hB4⟩; have hz4 := hB4.size; have HN4 := Lib.hid (hkeep1 hB4 l3 HN3.out); clear z3; have z4 := cellOf1 HN4.out; have l4 := lt_blk1 HN4.out; have HTe := Lib.hid (HTd.out w4 (HRu3.out.of hB4) (HR3.out.below hB4 HV3.out.size) (Nat.le_trans HV3.out.size hB4.size)); have HB4 := Lib.hid hB4; clear hB4)
        | ((with_reducible refine HTe.out.mono ?_); rintro e w5 ⟨A2, c2, rfl, HO5, hB5⟩; have hz5 := hB5.size; have HO4b := Lib.hid (HO4.out.of hB5); have HB5 := Lib.hid (HB4.out.trans (hB5.mono hz4)); have HSa := Lib.hid (same_acB w5.heap.size w5.heap.size A1 A2 M.length c1 c2 M w5 rfl (HO4b.out.pw.rw') (HO5.out.pw.rw') (by have := HM.out; omega)); clear hB5)
        | ((with_reducible refine HSa.out.mono ?_); rintro e w6 ⟨rfl, hB6⟩; have HO4c := Lib.hid (HO4b.out.of hB6); have HB6 := Lib.hid (HB5.out.trans (hB6.mono (Nat.le_trans hz4 hz5))); clear hB6))
      have HMw := Lib.hid HO4c.out.mw
      clear HO4 HO4b HO4c HO5 HTk HTe HSa
      clear z4
      go_loopg [17] M.length (fun gh s17 wr => ∃ (i : Nat), i ≤ M.length ∧ gh = M.length - i ∧ s17 = .int .i64 i ∧ Hid (Below w3.heap.size w3 wr) ∧ Hid (MW wr w3.heap.size A1 (M.length * 6)))
      case atStart => exact ⟨0, by omega, rfl, rfl, HB6, HMw⟩
      case round =>
        obtain ⟨i, hi, rfl, rfl, HWr, HMr⟩ := hrel
        by_cases hil : i < M.length
        · obtain ⟨b, hA, hb0, hb1, ⟨v, hv⟩, hfz⟩ := HMr.out.at' (i := i * 6) (by omega)
          subst hA
          have hil' : (i : Int) < M.length := by omega
          have hm60 := HM.out
          have HBb := Lib.hid hb0
          clear hb0
          go_wp2
          go_roundg (M.length - (i + 1))
          case measure => omega
          case rel => exact ⟨i + 1, by omega, rfl, by go_num, Lib.hid (HWr.out.setCell (p := ⟨b, i * 6, none⟩) HBb.out _), Lib.hid (HMr.out.set b (i * 6) _)⟩
        · have hil' : decide ((i : Int) < (M.length : Nat)) = false := decide_eq_false (by omega)
          have HVr : Hid (Below w.heap.size w wr) := Lib.hid (HV3.out.trans (HWr.out.mono HV3.out.size))
          have HCB : Hid (wr.heap[w.heap.size]? = some (oCn c)) := Lib.hid (hkeep1 HWr.out l3 HN3.out)
          have HAr := Lib.hid (HA3.out.of HWr.out)
          have HRur := Lib.hid (HRu3.out.of HWr.out)
          have HIr := Lib.hid (HI3.out.below HWr.out (Nat.le_refl _))
          have HRr := Lib.hid (HR3.out.below HWr.out HV3.out.size)
          have hw3 := HWr.out.size
          have HVz := Lib.hid HVr.out.size
          have hN1 : (N : Int) ≤ 1000000 := by have := HN60.out; omega
          obtain ⟨su, hsu⟩ : ∃ su, suL c.au kind lm = su := ⟨_, rfl⟩
          obtain ⟨ha, hha⟩ : ∃ ha, lm.any (kdP c.au kind) = ha := ⟨_, rfl⟩
          have HC1 : Hid (∀ U, Below wr.heap.size wr U → Calls Try.prog 22 #[cnv c, .slice A0 N c0, .int .i64 kind] U fun e w' => e = .returned (.int .i64 su) ∧ Below U.heap.size U w') := Lib.hid (fun U hU => by rw [← hsu]; exact sum_any kind (HAr.out.of hU) HAU.out HAC.out HLN.out hN1 (HIr.out.below hU hw3) (Nat.le_trans hw3 hU.size))
          have HC2 : Hid (∀ U, Below wr.heap.size wr U → Calls Try.prog 23 #[cnv c, .slice A N cp, .int .i64 kind] U fun e w' => e = .returned (.int .i64 su) ∧ Below U.heap.size U w') := Lib.hid (fun U hU => by rw [← hsu]; exact rsum_any kind (HRur.out.of hU) HAU.out HAC.out HLN.out hN1 (HRr.out.below hU HVz.out) (Nat.le_trans HVz.out hU.size))
          have HC3 : Hid (∀ U, Below wr.heap.size wr U → Calls Try.prog 24 #[cnv c, .slice A0 N c0, .int .i64 kind] U fun e w' => e = .returned (.bool ha) ∧ Below U.heap.size U w') := Lib.hid (fun U hU => by rw [← hha]; exact has_any kind (HAr.out.of hU) HLN.out hN1 (HIr.out.below hU hw3) (Nat.le_trans hw3 hU.size))
          have HC4 : Hid (∀ U, Below wr.heap.size wr U → Calls Try.prog 25 #[cnv c, .slice A N cp, .int .i64 kind] U fun e w' => e = .returned (.bool ha) ∧ Below U.heap.size U w') := Lib.hid (fun U hU => by rw [← hha]; exact rhas_any kind (HRur.out.of hU) HLN.out hN1 (HRr.out.below hU HVz.out) (Nat.le_trans HVz.out hU.size))
          have HC5 : Hid (∀ U, Below wr.heap.size wr U → Calls Try.prog 13 #[.slice A0 N c0, .slice A N cp] U fun e w' => e = .returned (.bool true) ∧ Below U.heap.size U w') := Lib.hid (fun U hU => same_acB w3.heap.size w.heap.size A0 A N c0 cp lm U HLN.out (HIr.out.below hU hw3) (HRr.out.below hU HVz.out) hN1)
          clear hsu hha hw3 hN1
          go_wp2
          refine wp_region_noPanic ?_
          refine wp_region_held_drew (S := fun w' => Below wr.heap.size wr w') (by kernel_rfl) ((Below.refl _ _).drew) (fun hS0 => ?_)
          generalize wr.drew = x0 at hS0 ⊢
          refine wpAnyH_take (i := 0) (oi := ⟨some 64, Op.move (Operand.tmp 9), 4, _, _, none⟩) (v := ?vz0) rfl (by kernel_rfl) (by kernel_rfl) (by kernel_rfl) (fun _ _ _ h => h) (Or.inl ⟨by rfl, ?hz0⟩) hS0 ?rz0
          case hz0 => (intro wz hSw; go_simp <;> with_reducible rfl)
          (try simp only [Act.put, List.setIfInBounds_toArray, List.set_cons_zero, List.set_cons_succ])
          refine wpAnyH_take (i := 1) (oi := ⟨some 65, Op.move (Operand.tmp 64), 4, _, _, none⟩) (v := ?vz1) rfl (by kernel_rfl) (by kernel_rfl) (by kernel_rfl) (fun _ _ _ h => h) (Or.inl ⟨by rfl, ?hz1⟩) hS0 ?rz1
          case hz1 => (intro wz hSw; go_simp <;> with_reducible rfl)
          (try simp only [Act.put, List.setIfInBounds_toArray, List.set_cons_zero, List.set_cons_succ])
          refine wpAnyH_take (i := 2) (oi := ⟨some 66, Op.move (Operand.tmp 16), 4, _, _, some (1, true)⟩) (v := ?vz2) rfl (by kernel_rfl) (by kernel_rfl) (by kernel_rfl) (fun _ _ _ h => h) (Or.inl ⟨by rfl, ?hz2⟩) hS0 ?rz2
          case hz2 => (intro wz hSw; go_simp <;> with_reducible rfl)
          (try simp only [Act.put, List.setIfInBounds_toArray, List.set_cons_zero, List.set_cons_succ])
          refine wpAnyH_take (i := 3) (oi := ⟨some 67, Op.pick (Operand.tmp 65) (Operand.tmp 66) (Operand.const (Value.bool false)), 4, _, _, none⟩) (v := ?vz3) rfl (by kernel_rfl) (by kernel_rfl) (by kernel_rfl) (fun _ _ _ h => h) (Or.inl ⟨by rfl, ?hz3⟩) hS0 ?rz3
          case hz3 => (intro wz hSw; go_simp <;> with_reducible rfl)
          (try simp only [Act.put, List.setIfInBounds_toArray, List.set_cons_zero, List.set_cons_succ])
          refine wpAnyH_take (i := 4) (oi := ⟨some 68, Op.move (Operand.tmp 67), 4, _, _, none⟩) (v := ?vz4) rfl (by kernel_rfl) (by kernel_rfl) (by kernel_rfl) (fun _ _ _ h => h) (Or.inl ⟨by rfl, ?hz4⟩) hS0 ?rz4
          case hz4 => (intro wz hSw; go_simp <;> with_reducible rfl)
          (try simp only [Act.put, List.setIfInBounds_toArray, List.set_cons_zero, List.set_cons_succ])
          refine wpAnyH_take (i := 5) (oi := ⟨some 69, Op.load 31 (Operand.tmp 4), 31, _, _, some (4, true)⟩) (v := ?vz5) rfl (by kernel_rfl) (by kernel_rfl) (by kernel_rfl) (fun _ _ _ h => h) (Or.inl ⟨by rfl, ?hz5⟩) hS0 ?rz5
          case hz5 => (intro wz hSw; have u9 := cellOf1 (hkeep1 hSw (lt_blk1 HCB.out) HCB.out); go_simp <;> with_reducible rfl)
          (try simp only [Act.put, List.setIfInBounds_toArray, List.set_cons_zero, List.set_cons_succ])
          refine wpAnyH_take (i := 6) (oi := ⟨some 70, Op.move (Operand.tmp 11), 32, _, _, some (4, true)⟩) (v := ?vz6) rfl (by kernel_rfl) (by kernel_rfl) (by kernel_rfl) (fun _ _ _ h => h) (Or.inl ⟨by rfl, ?hz6⟩) hS0 ?rz6
          case hz6 => (intro wz hSw; go_simp <;> with_reducible rfl)
          (try simp only [Act.put, List.setIfInBounds_toArray, List.set_cons_zero, List.set_cons_succ])
          refine wpAnyH_take (i := 7) (oi := ⟨some 71, Op.move (Operand.tmp 2), 3, _, _, some (4, true)⟩) (v := ?vz7) rfl (by kernel_rfl) (by kernel_rfl) (by kernel_rfl) (fun _ _ _ h => h) (Or.inl ⟨by rfl, ?hz7⟩) hS0 ?rz7
          case hz7 => (intro wz hSw; go_simp <;> with_reducible rfl)
          (try simp only [Act.put, List.setIfInBounds_toArray, List.set_cons_zero, List.set_cons_succ])
          refine wpAnyH_take (i := 9) (oi := ⟨some 73, Op.load 31 (Operand.tmp 4), 31, _, _, some (4, true)⟩) (v := ?vz9) rfl (by kernel_rfl) (by kernel_rfl) (by kernel_rfl) (fun _ _ _ h => h) (Or.inl ⟨by rfl, ?hz9⟩) hS0 ?rz9
          case hz9 => (intro wz hSw; have u9 := cellOf1 (hkeep1 hSw (lt_blk1 HCB.out) HCB.out); go_simp <;> with_reducible rfl)
          (try simp only [Act.put, List.setIfInBounds_toArray, List.set_cons_zero, List.set_cons_succ])
          refine wpAnyH_take (i := 10) (oi := ⟨some 74, Op.move (Operand.tmp 1), 32, _, _, some (4, true)⟩) (v := ?vz10) rfl (by kernel_rfl) (by kernel_rfl) (by kernel_rfl) (fun _ _ _ h => h) (Or.inl ⟨by rfl, ?hz10⟩) hS0 ?rz10
          case hz10 => (intro wz hSw; go_simp <;> with_reducible rfl)
          (try simp only [Act.put, List.setIfInBounds_toArray, List.set_cons_zero, List.set_cons_succ])
          refine wpAnyH_take (i := 11) (oi := ⟨some 75, Op.move (Operand.tmp 2), 3, _, _, some (4, true)⟩) (v := ?vz11) rfl (by kernel_rfl) (by kernel_rfl) (by kernel_rfl) (fun _ _ _ h => h) (Or.inl ⟨by rfl, ?hz11⟩) hS0 ?rz11
          case hz11 => (intro wz hSw; go_simp <;> with_reducible rfl)
          (try simp only [Act.put, List.setIfInBounds_toArray, List.set_cons_zero, List.set_cons_succ])
          refine wpAnyH_ready (rs := [8]) (by kernel_rfl) (by simp) ?_
          refine AllReadyH.cons (o := ⟨some 72, Op.call { callee := Callee.value (Operand.func 22), args := #[Operand.tmp 69, Operand.tmp 70, Operand.tmp 71], argTypes := #[31, 32, 3] }, 3, _, _, some (4, true)⟩) rfl (fun K hK => ?_) AllReadyH.nil
          go_simp
          ((with_reducible refine (HC1.out _ hS0).mono ?_); rintro e x1 ⟨rfl, hb1⟩; have hs1 : Below wr.heap.size wr x1 := hS0.trans (Below.mono hb1 hS0.size))
          refine hK.out _ _ hs1 (fun _ => ?_)
          clear hK K
          (try simp only [Act.put, List.setIfInBounds_toArray, List.set_cons_zero, List.set_cons_succ])
          refine wpAnyH_ready (rs := [12]) (by kernel_rfl) (by simp) ?_
          refine AllReadyH.cons (o := ⟨some 76, Op.call { callee := Callee.value (Operand.func 23), args := #[Operand.tmp 73, Operand.tmp 74, Operand.tmp 75], argTypes := #[31, 32, 3] }, 3, _, _, some (4, true)⟩) rfl (fun K hK => ?_) AllReadyH.nil
          go_simp
          ((with_reducible refine (HC2.out _ hs1).mono ?_); rintro e x2 ⟨rfl, hb2⟩; have hs2 : Below wr.heap.size wr x2 := hs1.trans (Below.mono hb2 hs1.size))
          refine hK.out _ _ hs2 (fun _ => ?_)
          clear hK K
          (try simp only [Act.put, List.setIfInBounds_toArray, List.set_cons_zero, List.set_cons_succ])
          refine wpAnyH_take (i := 13) (oi := ⟨some 77, Op.binOp BinOp.eql 3 (Operand.tmp 72) (Operand.tmp 76) 3, 4, _, _, some (4, true)⟩) (v := ?vz13) rfl (by kernel_rfl) (by kernel_rfl) (by kernel_rfl) (fun _ _ _ h => h) (Or.inl ⟨by rfl, ?hz13⟩) hs2 ?rz13
          case hz13 => (intro wz hSw; go_simp <;> with_reducible rfl)
          (try simp only [Act.put, List.setIfInBounds_toArray, List.set_cons_zero, List.set_cons_succ])
          refine wpAnyH_take (i := 14) (oi := ⟨some 78, Op.pick (Operand.tmp 68) (Operand.tmp 77) (Operand.const (Value.bool false)), 4, _, _, none⟩) (v := ?vz14) rfl (by kernel_rfl) (by kernel_rfl) (by kernel_rfl) (fun _ _ _ h => h) (Or.inl ⟨by rfl, ?hz14⟩) hs2 ?rz14
          case hz14 => (intro wz hSw; go_simp <;> with_reducible rfl)
          (try simp only [Act.put, List.setIfInBounds_toArray, List.set_cons_zero, List.set_cons_succ])
          refine wpAnyH_take (i := 15) (oi := ⟨some 79, Op.move (Operand.tmp 78), 4, _, _, none⟩) (v := ?vz15) rfl (by kernel_rfl) (by kernel_rfl) (by kernel_rfl) (fun _ _ _ h => h) (Or.inl ⟨by rfl, ?hz15⟩) hs2 ?rz15
          case hz15 => (intro wz hSw; go_simp <;> with_reducible rfl)
          (try simp only [Act.put, List.setIfInBounds_toArray, List.set_cons_zero, List.set_cons_succ])
          refine wpAnyH_take (i := 16) (oi := ⟨some 80, Op.load 31 (Operand.tmp 4), 31, _, _, some (15, true)⟩) (v := ?vz16) rfl (by kernel_rfl) (by kernel_rfl) (by kernel_rfl) (fun _ _ _ h => h) (Or.inl ⟨by rfl, ?hz16⟩) hs2 ?rz16
          case hz16 => (intro wz hSw; have u9 := cellOf1 (hkeep1 hSw (lt_blk1 HCB.out) HCB.out); go_simp <;> with_reducible rfl)
          (try simp only [Act.put, List.setIfInBounds_toArray, List.set_cons_zero, List.set_cons_succ])
          refine wpAnyH_take (i := 17) (oi := ⟨some 81, Op.move (Operand.tmp 11), 32, _, _, some (15, true)⟩) (v := ?vz17) rfl (by kernel_rfl) (by kernel_rfl) (by kernel_rfl) (fun _ _ _ h => h) (Or.inl ⟨by rfl, ?hz17⟩) hs2 ?rz17
          case hz17 => (intro wz hSw; go_simp <;> with_reducible rfl)
          (try simp only [Act.put, List.setIfInBounds_toArray, List.set_cons_zero, List.set_cons_succ])
          refine wpAnyH_take (i := 18) (oi := ⟨some 82, Op.move (Operand.tmp 2), 3, _, _, some (15, true)⟩) (v := ?vz18) rfl (by kernel_rfl) (by kernel_rfl) (by kernel_rfl) (fun _ _ _ h => h) (Or.inl ⟨by rfl, ?hz18⟩) hs2 ?rz18
          case hz18 => (intro wz hSw; go_simp <;> with_reducible rfl)
          (try simp only [Act.put, List.setIfInBounds_toArray, List.set_cons_zero, List.set_cons_succ])
          refine wpAnyH_take (i := 20) (oi := ⟨some 84, Op.load 31 (Operand.tmp 4), 31, _, _, some (15, true)⟩) (v := ?vz20) rfl (by kernel_rfl) (by kernel_rfl) (by kernel_rfl) (fun _ _ _ h => h) (Or.inl ⟨by rfl, ?hz20⟩) hs2 ?rz20
          case hz20 => (intro wz hSw; have u9 := cellOf1 (hkeep1 hSw (lt_blk1 HCB.out) HCB.out); go_simp <;> with_reducible rfl)
          (try simp only [Act.put, List.setIfInBounds_toArray, List.set_cons_zero, List.set_cons_succ])
          refine wpAnyH_take (i := 21) (oi := ⟨some 85, Op.move (Operand.tmp 1), 32, _, _, some (15, true)⟩) (v := ?vz21) rfl (by kernel_rfl) (by kernel_rfl) (by kernel_rfl) (fun _ _ _ h => h) (Or.inl ⟨by rfl, ?hz21⟩) hs2 ?rz21
          case hz21 => (intro wz hSw; go_simp <;> with_reducible rfl)
          (try simp only [Act.put, List.setIfInBounds_toArray, List.set_cons_zero, List.set_cons_succ])
          refine wpAnyH_take (i := 22) (oi := ⟨some 86, Op.move (Operand.tmp 2), 3, _, _, some (15, true)⟩) (v := ?vz22) rfl (by kernel_rfl) (by kernel_rfl) (by kernel_rfl) (fun _ _ _ h => h) (Or.inl ⟨by rfl, ?hz22⟩) hs2 ?rz22
          case hz22 => (intro wz hSw; go_simp <;> with_reducible rfl)
          (try simp only [Act.put, List.setIfInBounds_toArray, List.set_cons_zero, List.set_cons_succ])
          refine wpAnyH_ready (rs := [19]) (by kernel_rfl) (by simp) ?_
          refine AllReadyH.cons (o := ⟨some 83, Op.call { callee := Callee.value (Operand.func 24), args := #[Operand.tmp 80, Operand.tmp 81, Operand.tmp 82], argTypes := #[31, 32, 3] }, 4, _, _, some (15, true)⟩) rfl (fun K hK => ?_) AllReadyH.nil
          go_simp
          ((with_reducible refine (HC3.out _ hs2).mono ?_); rintro e x3 ⟨rfl, hb3⟩; have hs3 : Below wr.heap.size wr x3 := hs2.trans (Below.mono hb3 hs2.size))
          refine hK.out _ _ hs3 (fun _ => ?_)
          clear hK K
          (try simp only [Act.put, List.setIfInBounds_toArray, List.set_cons_zero, List.set_cons_succ])
          refine wpAnyH_ready (rs := [23]) (by kernel_rfl) (by simp) ?_
          refine AllReadyH.cons (o := ⟨some 87, Op.call { callee := Callee.value (Operand.func 25), args := #[Operand.tmp 84, Operand.tmp 85, Operand.tmp 86], argTypes := #[31, 32, 3] }, 4, _, _, some (15, true)⟩) rfl (fun K hK => ?_) AllReadyH.nil
          go_simp
          ((with_reducible refine (HC4.out _ hs3).mono ?_); rintro e x4 ⟨rfl, hb4⟩; have hs4 : Below wr.heap.size wr x4 := hs3.trans (Below.mono hb4 hs3.size))
          refine hK.out _ _ hs4 (fun _ => ?_)
          clear hK K
          (try simp only [Act.put, List.setIfInBounds_toArray, List.set_cons_zero, List.set_cons_succ])
          refine wpAnyH_take (i := 24) (oi := ⟨some 88, Op.binOp BinOp.eql 4 (Operand.tmp 83) (Operand.tmp 87) 4, 4, _, _, some (15, true)⟩) (v := ?vz24) rfl (by kernel_rfl) (by kernel_rfl) (by kernel_rfl) (fun _ _ _ h => h) (Or.inl ⟨by rfl, ?hz24⟩) hs4 ?rz24
          case hz24 => (intro wz hSw; go_simp <;> with_reducible rfl)
          (try simp only [Act.put, List.setIfInBounds_toArray, List.set_cons_zero, List.set_cons_succ])
          refine wpAnyH_take (i := 25) (oi := ⟨some 89, Op.pick (Operand.tmp 79) (Operand.tmp 88) (Operand.const (Value.bool false)), 4, _, _, none⟩) (v := ?vz25) rfl (by kernel_rfl) (by kernel_rfl) (by kernel_rfl) (fun _ _ _ h => h) (Or.inl ⟨by rfl, ?hz25⟩) hs4 ?rz25
          case hz25 => (intro wz hSw; go_simp <;> with_reducible rfl)
          (try simp only [Act.put, List.setIfInBounds_toArray, List.set_cons_zero, List.set_cons_succ])
          refine wpAnyH_take (i := 26) (oi := ⟨some 90, Op.move (Operand.tmp 89), 4, _, _, none⟩) (v := ?vz26) rfl (by kernel_rfl) (by kernel_rfl) (by kernel_rfl) (fun _ _ _ h => h) (Or.inl ⟨by rfl, ?hz26⟩) hs4 ?rz26
          case hz26 => (intro wz hSw; go_simp <;> with_reducible rfl)
          (try simp only [Act.put, List.setIfInBounds_toArray, List.set_cons_zero, List.set_cons_succ])
          refine wpAnyH_take (i := 27) (oi := ⟨some 91, Op.move (Operand.tmp 11), 32, _, _, some (26, true)⟩) (v := ?vz27) rfl (by kernel_rfl) (by kernel_rfl) (by kernel_rfl) (fun _ _ _ h => h) (Or.inl ⟨by rfl, ?hz27⟩) hs4 ?rz27
          case hz27 => (intro wz hSw; go_simp <;> with_reducible rfl)
          (try simp only [Act.put, List.setIfInBounds_toArray, List.set_cons_zero, List.set_cons_succ])
          refine wpAnyH_take (i := 28) (oi := ⟨some 92, Op.move (Operand.tmp 1), 32, _, _, some (26, true)⟩) (v := ?vz28) rfl (by kernel_rfl) (by kernel_rfl) (by kernel_rfl) (fun _ _ _ h => h) (Or.inl ⟨by rfl, ?hz28⟩) hs4 ?rz28
          case hz28 => (intro wz hSw; go_simp <;> with_reducible rfl)
          (try simp only [Act.put, List.setIfInBounds_toArray, List.set_cons_zero, List.set_cons_succ])
          refine wpAnyH_ready (rs := [29]) (by kernel_rfl) (by simp) ?_
          refine AllReadyH.cons (o := ⟨some 93, Op.call { callee := Callee.value (Operand.func 13), args := #[Operand.tmp 91, Operand.tmp 92], argTypes := #[32, 32] }, 4, _, _, some (26, true)⟩) rfl (fun K hK => ?_) AllReadyH.nil
          go_simp
          ((with_reducible refine (HC5.out _ hs4).mono ?_); rintro e x5 ⟨rfl, hb5⟩; have hs5 : Below wr.heap.size wr x5 := hs4.trans (Below.mono hb5 hs4.size))
          refine hK.out _ _ hs5 (fun _ => ?_)
          clear hK K
          (try simp only [Act.put, List.setIfInBounds_toArray, List.set_cons_zero, List.set_cons_succ])
          refine wpAnyH_take (i := 30) (oi := ⟨some 94, Op.pick (Operand.tmp 90) (Operand.tmp 93) (Operand.const (Value.bool false)), 4, _, _, none⟩) (v := ?vz30) rfl (by kernel_rfl) (by kernel_rfl) (by kernel_rfl) (fun _ _ _ h => h) (Or.inl ⟨by rfl, ?hz30⟩) hs5 ?rz30
          case hz30 => (intro wz hSw; go_simp <;> with_reducible rfl)
          (try simp only [Act.put, List.setIfInBounds_toArray, List.set_cons_zero, List.set_cons_succ])
          refine wpAnyH_take (i := 31) (oi := ⟨some 8, Op.assign (Operand.tmp 94), 4, _, _, none⟩) (v := ?vz31) rfl (by kernel_rfl) (by kernel_rfl) (by kernel_rfl) (fun _ _ _ h => h) (Or.inl ⟨by rfl, ?hz31⟩) hs5 ?rz31
          case hz31 => (intro wz hSw; go_simp <;> with_reducible rfl)
          (try simp only [Act.put, List.setIfInBounds_toArray, List.set_cons_zero, List.set_cons_succ])
          refine wpAnyH_done (by kernel_rfl) ?_ _
          refine NoPanic.normal ?_
          have HS9 := Lib.hid (hs5)
          go_wp2
          go_ret
          exact ⟨rfl, HVr.out.trans (HS9.out.mono HVz.out)⟩


set_option maxRecDepth 100000 in
theorem lifted (os : Os) (started : os.Started) (H : Type) (enc : TypeId × Value → H) :
    ReturnsInHanded {} Try.checked os 4 .any (Rows.auraSumsSpec.pre6 enc Try.prog Try.f4 Rows.auraSumsRow.domain false) (Rows.auraSumsSpec.post enc Try.prog Try.f4 false true false false) := by
  refine returnsInHanded_of_change (C := Try.checked) own started (by kernel_rfl) Try.func4
    (ChangeSpec.witness6 (enc := enc) (C := Try.checked) false ⟨#[], #[.agg #[.slice none 0 0, .slice none 0 0, .slice none 0 0, .int .i64 0, .int .i64 0, .slice none 0 0, .int .i64 0, .int .i64 0, .int .i64 0, .int .i64 0], .slice none 0 0, .int .i64 0, .int .i64 0], []⟩ 8 (by kernel_rfl) (by kernel_rfl) (by kernel_rfl) (by kernel_rfl)) ?_
  intro W base args ds gs before hval0 hW hcnd _
  have hval : ∀ (j : Nat) t v, Try.f4.params[j]? = some t → args[j]? = some v → Value.okWide Try.prog W .any base t v := hval0
  have hW' := hW
  obtain ⟨p, q, hA0, hV, rfl, hfz, hnd⟩ := hW
  have hA : DataW.TrodAll enc Try.prog W 0 (fun _ => true) true Try.f4.params.toList args.toList ds p := hA0
  rw [Try.params4] at hA hval
  obtain ⟨v0, vs0, d0, ds0, p0, q0, hargs, rfl, rfl, h0, r0⟩ := trodAll_cons hA
  obtain ⟨v1, vs1, d1, ds1, p1, q1, rfl, rfl, rfl, h1, r1⟩ := trodAll_cons r0
  obtain ⟨v2, vs2, d2, ds2, p2, q2, rfl, rfl, rfl, h2, r2⟩ := trodAll_cons r1
  obtain ⟨v3, vs3, d3, ds3, p3, q3, rfl, rfl, rfl, h3, r3⟩ := trodAll_cons r2
  obtain ⟨rfl, rfl, rfl⟩ := trodAll_nil r3
  obtain rfl : args = #[v0, v1, v2, v3] := by cases args; simp_all
  obtain ⟨rfl, rfl⟩ := trodVars_none hV
  clear hA0 hval0
  have hlt0 : ∀ x ∈ p0, x.block < W.heap.size := fun x hx => hW'.lt x (by simp [hx])
  have hk0 := h0
  obtain ⟨c0, rfl, hr0, hf0⟩ := Open.viewC (hval 0 31 v0 rfl rfl) h0
  have hlt1 : ∀ x ∈ p1, x.block < W.heap.size := fun x hx => hW'.lt x (by simp [hx])
  have hk1 := h1
  obtain ⟨A1, c1, l1, rfl, hr1, hf1⟩ := Kop.viewAc (hval 1 32 v1 rfl rfl) h1
  obtain ⟨a2, rfl, rfl, rfl, w2⟩ := open_int Try.underlying3 (hval 2 3 v2 rfl rfl) h2
  obtain ⟨a3, rfl, rfl, rfl, w3⟩ := open_int Try.underlying3 (hval 3 3 v3 rfl rfl) h3
  simp only [List.append_nil] at hW'
  refine (walk W c0 hr0 hf0 A1 c1 l1 hr1 hf1 a2 (Kop.fits_of w2) a3 (Kop.fits_of w3)).mono fun e W' ⟨he, hg⟩ => ?_
  subst he
  exact ⟨_, rfl, _, _, _, [], _, [], hW', (trodAll_cons_mk (shut_bool Try.underlying4 _) trodAll_mk0), (trodAll_cons_mk (Below.trod Kop.laidOut (by kernel_rfl) (of_decide_eq_true (by kernel_rfl)) hk0 hg hlt0) (trodAll_cons_mk (Below.trod Kop.laidOut (by kernel_rfl) (of_decide_eq_true (by kernel_rfl)) hk1 hg hlt1) (trodAll_cons_mk (shut_int Try.underlying3 w2) (trodAll_cons_mk (shut_int Try.underlying3 w3) trodAll_mk0)))), rfl, hg.frame _, fun h => by cases h⟩

theorem over : Rows.auraSumsRow.holds Try.pinned (OpenSpec.ofChange Rows.auraSumsSpec) :=
  OpenClaim.holds_of_wide 4 Try.f4 rfl rfl rfl rfl rfl rfl rfl ⟨rfl, rfl, rfl, rfl, rfl⟩ rfl rfl rfl rfl rfl (by kernel_rfl) Try.func4 (by kernel_rfl)
    (of_decide_eq_true (by kernel_rfl)) (by unfold Func.isWrapper; first | (rw [if_pos (by decide +kernel)]; kernel_rfl) | (rw [if_neg (by decide +kernel)]; exact ⟨rfl, rfl⟩))
    (fun os started H enc _ => lifted os started H enc)

/-- The given statement. -/
theorem proved : Rows.AuraSumsSaid :=
  over
#print axioms proved
end Go.Proofs.Ytijobbdgiaiocaa.auraSums
