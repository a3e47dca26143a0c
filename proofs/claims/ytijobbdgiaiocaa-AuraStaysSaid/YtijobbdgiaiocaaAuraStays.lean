/-
  The stage's theorem: a right row stays right whatever is laid, ends or is taken away; an aura that is laid again ends as late as it may, and has its most stacks at last.
-/
import Derived.Test.YtijobbdgiaiocaaSma
import Derived.Test.YtijobbdgiaiocaaSty
import Derived.Test.YtijobbdgiaiocaaFew
import Derived.Test.YtijobbdgiaiocaaOpen
import Derived.Test.YtijobbdgiaiocaaKop
import Derived.Test.YtijobbdgiaiocaaKnq
import Derived.WalkKit
import Derived.ProofKit
import Derived.OpenShut
namespace Go.Proofs.Ytijobbdgiaiocaa.auraStays
open Go.ChangeShapes Go.WideShapes Go.ChangeAt Go.RowKit Con
set_option linter.unusedVariables false

theorem own : ownKnob Try.prog.godebug = none := by kernel_rfl

set_option maxRecDepth 20000 in
set_option maxHeartbeats 8000000 in
theorem walk (w : World) (c : Cn) (hr : RC w w.heap.size c) (hu : ∀ a ∈ c.au, NAu a) (A : Option Addr) (cp : Nat) (l : List Ac) (hrl : RW ac w w.heap.size A l) (hf : ∀ x ∈ l, FAc x) (AQ : Option Addr) (cq : Nat) (L : List Q4) (hq : RW q4 w w.heap.size AQ L) (hfq : ∀ x ∈ L, FQ4 x) :
    Calls Try.prog 5 #[cnv c, .slice A l.length cp, .slice AQ L.length cq] w fun e w' => e = .returned (.bool true) ∧ Below w.heap.size w w' := by
  have hb := below_box w (oCn c)
  obtain ⟨x, hx⟩ := bex (FewP c)
  obtain ⟨rb, hrb⟩ := bex (RightC c ∧ RightL c.au l)
  have HX := Lib.hid hb; have HN := Lib.hid (heap_alloc_new w (oCn c)); have HR := Lib.hid (hrl.below hb (Nat.le_refl _)); have HRC := Lib.hid (hr.below hb (Nat.le_refl _)); have HQ4 := Lib.hid (hq.below hb (Nat.le_refl _))
  have HLT : Hid (w.heap.size < (w.alloc (oCn c)).heap.size) := Lib.hid (by simp)
  have HAU := Lib.hid hu; have HAC : Hid (∀ a ∈ l, NAc a) := Lib.hid (fun a ha => (hf a ha).nac); have HFQ := Lib.hid hfq
  have HQ := Lib.hid hx; have HRB := Lib.hid hrb
  have HSmall := Lib.hid (small_any (w.alloc (oCn c)))
  clear hr hu hrl hf hb hx hq hfq hrb
  obtain ⟨N, hN⟩ : ∃ N, l.length = N := ⟨_, rfl⟩
  obtain ⟨K, hK⟩ : ∃ K, L.length = K := ⟨_, rfl⟩
  have HLN := Lib.hid hN; have HLK := Lib.hid hK
  rw [hN, hK]
  clear hN hK
  go_enter Try.func5, Try.ntmps5
  cases x with
  | false =>
    go_wp2_with (first
      | ((with_reducible refine HSmall.out.mono ?_); rintro e w1 ⟨rfl, hB1⟩; have hcb := hkeep1 hB1 HLT.out HN.out; have z1 := cellOf1 hcb; have l1 := lt_blk1 hcb; have HN1 := Lib.hid hcb; have HB1 := Lib.hid hB1; have HF := Lib.hid (few_c c (HRC.out.below hB1 (Nat.le_of_lt HLT.out)) (Nat.le_trans (Nat.le_of_lt HLT.out) hB1.size) _ HQ.out); clear hcb hB1)
      | ((with_reducible refine HF.out.mono ?_); rintro e w2 ⟨rfl, hB2⟩))
    go_ret
    exact ⟨rfl, HX.out.trans ((HB1.out.trans (hB2.mono HB1.out.size)).mono HX.out.size)⟩
  | true =>
    have HSm : Hid (Sm c) := Lib.hid (HQ.out.1 rfl).sm
    by_cases hbig : 100 < (K : Int)
    · go_wp2_with (first
        | ((with_reducible refine HSmall.out.mono ?_); rintro e w1 ⟨rfl, hB1⟩; have hcb := hkeep1 hB1 HLT.out HN.out; have z1 := cellOf1 hcb; have l1 := lt_blk1 hcb; have HN1 := Lib.hid hcb; have HB1 := Lib.hid hB1; have HF := Lib.hid (few_c c (HRC.out.below hB1 (Nat.le_of_lt HLT.out)) (Nat.le_trans (Nat.le_of_lt HLT.out) hB1.size) _ HQ.out); clear hcb hB1)
        | ((with_reducible refine HF.out.mono ?_); rintro e w2 ⟨rfl, hB2⟩))
      go_ret
      exact ⟨rfl, HX.out.trans ((HB1.out.trans (hB2.mono HB1.out.size)).mono HX.out.size)⟩
    · have hbig' : decide (100 < (K : Int)) = false := by simp; omega
      have hK100 : K ≤ 100 := by omega
      clear hbig
      have HRt : Hid (∀ V, Below (w.alloc (oCn c)).heap.size (w.alloc (oCn c)) V → Calls Try.prog 18 #[cnv c, .slice A N cp] V fun e w' => e = .returned (.bool rb) ∧ Below V.heap.size V w') := Lib.hid (fun V hV => by
        have hV1 := Nat.le_trans (Nat.le_of_lt HLT.out) hV.size
        have hrc := HRC.out.below hV (Nat.le_of_lt HLT.out)
        by_cases h16 : (16 : Int) < N
        · have e : rb = false := by
            cases hh : rb with
            | false => rfl
            | true => have := (HRB.out.1 hh).2.1; rw [HLN.out] at this; omega
          rw [e]; exact aright_big hrc HSm.out h16 hV1
        · exact aright_any hrc HSm.out HLN.out (by omega) (HR.out.below hV (Nat.le_of_lt HLT.out)) hV1 rb HRB.out)
      cases rb with
      | false =>
        go_wp2_with (first
          | ((with_reducible refine HSmall.out.mono ?_); rintro e w1 ⟨rfl, hB1⟩; have hcb := hkeep1 hB1 HLT.out HN.out; have z1 := cellOf1 hcb; have l1 := lt_blk1 hcb; have HN1 := Lib.hid hcb; have HB1 := Lib.hid hB1; have HF := Lib.hid (few_c c (HRC.out.below hB1 (Nat.le_of_lt HLT.out)) (Nat.le_trans (Nat.le_of_lt HLT.out) hB1.size) _ HQ.out); clear hcb hB1)
          | ((with_reducible refine HF.out.mono ?_); rintro e w2 ⟨rfl, hB2⟩; have hcb := hkeep1 hB2 l1 HN1.out; clear z1; have z2 := cellOf1 hcb; have l2 := lt_blk1 hcb; have HB2 := Lib.hid (HB1.out.trans (hB2.mono HB1.out.size)); have HRu := Lib.hid (HRt.out w2 HB2.out); clear hcb hB2)
          | ((with_reducible refine HRu.out.mono ?_); rintro e w3 ⟨rfl, hB3⟩))
        go_ret
        exact ⟨rfl, HX.out.trans ((HB2.out.trans (hB3.mono HB2.out.size)).mono HX.out.size)⟩
      | true =>
        go_wp2_with (first
          | ((with_reducible refine HSmall.out.mono ?_); rintro e w1 ⟨rfl, hB1⟩; have hcb := hkeep1 hB1 HLT.out HN.out; have z1 := cellOf1 hcb; have l1 := lt_blk1 hcb; have HN1 := Lib.hid hcb; have HB1 := Lib.hid hB1; have HF := Lib.hid (few_c c (HRC.out.below hB1 (Nat.le_of_lt HLT.out)) (Nat.le_trans (Nat.le_of_lt HLT.out) hB1.size) _ HQ.out); clear hcb hB1)
          | ((with_reducible refine HF.out.mono ?_); rintro e w2 ⟨rfl, hB2⟩; have hcb := hkeep1 hB2 l1 HN1.out; clear z1; have z2 := cellOf1 hcb; have l2 := lt_blk1 hcb; have HB2 := Lib.hid (HB1.out.trans (hB2.mono HB1.out.size)); have HRu := Lib.hid (HRt.out w2 HB2.out); clear hcb hB2)
          | ((with_reducible refine HRu.out.mono ?_); rintro e w3 ⟨rfl, hB3⟩; have HB3 := Lib.hid (HB2.out.trans (hB3.mono HB2.out.size)); clear hB3))
        have HRi : Hid (RightC c ∧ RightL c.au l) := Lib.hid (HRB.out.1 (by first | rfl | trivial))
        have HAk : Hid ((∀ a ∈ c.au, AuOk a) ∧ c.au.Pairwise (fun a b => a.id < b.id)) := Lib.hid (right_au HRi.out.1)
        have HA := Lib.hid (auC HRC.out (Nat.le_of_lt HLT.out) HSm.out)
        clear HSmall HRt HRu HRB HF z2 l1 l2
        generalize w.alloc (oCn c) = V at *
        have HSR : Hid (SR c w3 A N l) := Lib.hid ⟨(HR.out.below HB3.out (Nat.le_of_lt HLT.out)).more (Nat.le_trans (Nat.le_of_lt HLT.out) HB3.out.size), HRi.out.2, HAC.out, HLN.out⟩
        go_loopg [1, 9, 10] K (fun gh s1 s9 s10 wr => ∃ (k nw n : Nat) (A : Option Addr) (cc : Nat) (M : List Ac), k ≤ K ∧ gh = K - k ∧ s10 = .int .i64 (k : Int) ∧ s9 = .int .i64 (nw : Int) ∧ nw ≤ 7 * k ∧ s1 = .slice A n cc ∧ Hid (SR c wr A n M) ∧ Hid (Below V.heap.size V wr))
        case atStart => exact ⟨0, 0, N, A, cp, l, by omega, rfl, rfl, rfl, by omega, rfl, HSR, HB3⟩
        case round =>
          obtain ⟨k, nw, n, A1, cc, M, hk, rfl, rfl, rfl, hnw, rfl, HS, HW⟩ := hrel
          by_cases hlt : k < K
          · obtain ⟨s, hs⟩ : ∃ s, L[k]? = some s := ⟨_, List.getElem?_eq_getElem (by rw [HLK.out]; exact hlt)⟩
            obtain ⟨b, off, hAQ, hbl, hc⟩ := (HQ4.out.below HW.out (Nat.le_of_lt HLT.out)).at' hs
            subst hAQ
            obtain ⟨f0, f1, f2, f3⟩ := cellsQ4 (o := off + k * 4) hc
            have hlt' : (k : Int) < K := by omega
            have HFs := Lib.hid (HFQ.out s (List.mem_of_getElem? hs))
            have hcb := hkeep1 HW.out HLT.out HN.out
            have zb := cellOf1 hcb
            have lb := lt_blk1 hcb
            obtain ⟨d, hd, hd7⟩ := and_le s.a3 7 (by decide)
            obtain ⟨t, ht, ht3⟩ := and_le s.a0 3 (by decide)
            have hd' : bits BinOp.and IntKind.i64 s.a3 7 = (d : Int) := hd
            have ht' : bits BinOp.and IntKind.i64 s.a0 3 = (t : Int) := ht
            have hbw : b < wr.heap.size := by have := HW.out.size; have := HLT.out; omega
            have hnn : n ≤ 16 := HS.out.n16
            have HBq : Hid (Below wr.heap.size wr (wr.alloc (.cells #[.int .i64 s.a0, .int .i64 s.a1, .int .i64 s.a2, .int .i64 s.a3] 52))) := Lib.hid (below_box _ _)
            have HVq := Lib.hid (HW.out.trans (HBq.out.mono HW.out.size))
            have HSq := Lib.hid (HS.out.of HBq.out)
            have HNq := Lib.hid (heap_alloc_new wr (.cells #[.int .i64 s.a0, .int .i64 s.a1, .int .i64 s.a2, .int .i64 s.a3] 52))
            have HCBq := Lib.hid (hkeep1 HVq.out HLT.out HN.out)
            clear hs hc hcb hd ht
            have hkk : k + 1 ≤ 100 := by omega
            have htt : t = 0 ∨ t = 1 ∨ t = 2 ∨ t = 3 := by omega
            have hFn : Fits ((nw : Int) + (d : Int)) := ⟨by omega, by omega⟩
            rcases htt with rfl | rfl | rfl | rfl
            · obtain ⟨E, m, hcase, hcall⟩ := st_apply (cp := cc) (HA.out.of HVq.out) HAU.out HAk.out.1 HSq.out s.a1 s.a2 ((nw : Int) + (d : Int)) hFn
              have HC := Lib.hid hcall
              clear hcall
              have HAu : Hid (∀ U, Below V.heap.size V U → Calls Try.prog 26 #[cnv c, .int .i64 s.a1] U fun e w' => e = .returned (.tuple #[auv (lkA c.au s.a1), .bool (lkB c.au s.a1)]) ∧ Below U.heap.size U w') := Lib.hid (fun U hU => HA.out U hU s.a1)
              generalize lkA c.au s.a1 = a at HAu
              obtain ⟨y, hy⟩ : ∃ y, lkB c.au s.a1 = y := ⟨_, rfl⟩
              rw [hy] at hcase HAu
              clear hy
              rcases hcase with ⟨rfl, rfl⟩ | ⟨rfl, rfl, rfl⟩ | ⟨rfl, rfl, rfl⟩ | ⟨rfl, rfl, rfl⟩
              · go_wp2_with (first
                  | ((with_reducible refine HC.out.mono ?_); rintro e w4 ⟨A4, c4, M4, rfl, HS4, hB4⟩; have HV4 := Lib.hid (HVq.out.trans (hB4.mono HVq.out.size)); have HNq4 := Lib.hid (hkeep1 hB4 (by simp) HNq.out); have HCB4 := Lib.hid (hkeep1 HV4.out HLT.out HN.out); have zq := cellOf1 HNq4.out; have lq := lt_blk1 HNq4.out; have zc := cellOf1 HCB4.out; have lc := lt_blk1 HCB4.out; have HB4 := Lib.hid hB4; have HU := Lib.hid (HAu.out w4 HV4.out); clear hB4)
                  | ((with_reducible refine HU.out.mono ?_); rintro e w5 ⟨rfl, hB5⟩; have hB5' : Below w4.heap.size w4 (w5.alloc (oAu a)) := hB5.alloc hB5.size _; have HV5 := Lib.hid (HV4.out.trans (hB5'.mono HV4.out.size)); have HCB5 := Lib.hid (hkeep1 HV5.out HLT.out HN.out); clear zq lq zc lc; have zc := cellOf1 HCB5.out; have lc := lt_blk1 HCB5.out; have HS5 := Lib.hid ((HSq.out.of HB4.out).of hB5'); have HRr := Lib.hid (st_right (cp := cc) HS5.out (HRC.out.below HV5.out (Nat.le_of_lt HLT.out)) HSm.out (Nat.le_trans (Nat.le_of_lt HLT.out) HV5.out.size) HRi.out.1); clear hB5 hB5')
                  | ((with_reducible refine HRr.out.mono ?_); rintro e w6 ⟨rfl, hB6⟩; have HS6 := Lib.hid (HS5.out.of hB6); have HV6 := Lib.hid (HV5.out.trans (hB6.mono HV5.out.size)); clear hB6))
                go_roundg (K - (k + 1))
                case measure => omega
                case rel => exact ⟨k + 1, nw + d, n, A1, cc, M, by omega, rfl, by go_num, by go_num, by omega, rfl, HS6, HV6⟩
              · go_wp2_with (first
                  | ((with_reducible refine HC.out.mono ?_); rintro e w4 ⟨A4, c4, M4, rfl, HS4, hB4⟩; have HV4 := Lib.hid (HVq.out.trans (hB4.mono HVq.out.size)); have HNq4 := Lib.hid (hkeep1 hB4 (by simp) HNq.out); have HCB4 := Lib.hid (hkeep1 HV4.out HLT.out HN.out); have zq := cellOf1 HNq4.out; have lq := lt_blk1 HNq4.out; have zc := cellOf1 HCB4.out; have lc := lt_blk1 HCB4.out; have HB4 := Lib.hid hB4; have HU := Lib.hid (HAu.out w4 HV4.out); clear hB4)
                  | ((with_reducible refine HU.out.mono ?_); rintro e w5 ⟨rfl, hB5⟩; have hB5' : Below w4.heap.size w4 (w5.alloc (oAu a)) := hB5.alloc hB5.size _; have HV5 := Lib.hid (HV4.out.trans (hB5'.mono HV4.out.size)); have HCB5 := Lib.hid (hkeep1 HV5.out HLT.out HN.out); clear zq lq zc lc; have zc := cellOf1 HCB5.out; have lc := lt_blk1 HCB5.out; have HS5 := Lib.hid ((HSq.out.of HB4.out).of hB5'); have HRr := Lib.hid (st_right (cp := cc) HS5.out (HRC.out.below HV5.out (Nat.le_of_lt HLT.out)) HSm.out (Nat.le_trans (Nat.le_of_lt HLT.out) HV5.out.size) HRi.out.1); clear hB5 hB5')
                  | ((with_reducible refine HRr.out.mono ?_); rintro e w6 ⟨rfl, hB6⟩; have HS6 := Lib.hid (HS5.out.of hB6); have HV6 := Lib.hid (HV5.out.trans (hB6.mono HV5.out.size)); clear hB6))
                go_roundg (K - (k + 1))
                case measure => omega
                case rel => exact ⟨k + 1, nw + d, 16, A1, cc, M, by omega, rfl, by go_num, by go_num, by omega, rfl, HS6, HV6⟩
              · have hme : ((m : Int) == (m : Int)) = true := by simp
                go_wp2_with (first
                  | ((with_reducible refine HC.out.mono ?_); rintro e w4 ⟨A4, c4, M4, rfl, HS4, hB4⟩; have HV4 := Lib.hid (HVq.out.trans (hB4.mono HVq.out.size)); have HNq4 := Lib.hid (hkeep1 hB4 (by simp) HNq.out); have HCB4 := Lib.hid (hkeep1 HV4.out HLT.out HN.out); have zq := cellOf1 HNq4.out; have lq := lt_blk1 HNq4.out; have zc := cellOf1 HCB4.out; have lc := lt_blk1 HCB4.out; have HB4 := Lib.hid hB4; have HU := Lib.hid (HAu.out w4 HV4.out); clear hB4)
                  | ((with_reducible refine HU.out.mono ?_); rintro e w5 ⟨rfl, hB5⟩; have hB5' : Below w4.heap.size w4 (w5.alloc (oAu a)) := hB5.alloc hB5.size _; have HV5 := Lib.hid (HV4.out.trans (hB5'.mono HV4.out.size)); have HCB5 := Lib.hid (hkeep1 HV5.out HLT.out HN.out); clear zq lq zc lc; have zc := cellOf1 HCB5.out; have lc := lt_blk1 HCB5.out; have HS5 := Lib.hid ((HS4.out (by first | rfl | trivial)).of hB5'); have HRr := Lib.hid (st_right (cp := c4) HS5.out (HRC.out.below HV5.out (Nat.le_of_lt HLT.out)) HSm.out (Nat.le_trans (Nat.le_of_lt HLT.out) HV5.out.size) HRi.out.1); clear hB5 hB5')
                  | ((with_reducible refine HRr.out.mono ?_); rintro e w6 ⟨rfl, hB6⟩; have HS6 := Lib.hid (HS5.out.of hB6); have HV6 := Lib.hid (HV5.out.trans (hB6.mono HV5.out.size)); clear hB6))
                go_roundg (K - (k + 1))
                case measure => omega
                case rel => exact ⟨k + 1, nw + d, _, A4, c4, M4, by omega, rfl, by go_num, by go_num, by omega, rfl, HS6, HV6⟩
              · have hme : (((n + 1 : Nat) : Int) == (n : Int)) = false := by simp; omega
                go_wp2_with (first
                  | ((with_reducible refine HC.out.mono ?_); rintro e w4 ⟨A4, c4, M4, rfl, HS4, hB4⟩; have HV4 := Lib.hid (HVq.out.trans (hB4.mono HVq.out.size)); have HNq4 := Lib.hid (hkeep1 hB4 (by simp) HNq.out); have HCB4 := Lib.hid (hkeep1 HV4.out HLT.out HN.out); have zq := cellOf1 HNq4.out; have lq := lt_blk1 HNq4.out; have zc := cellOf1 HCB4.out; have lc := lt_blk1 HCB4.out; have HB4 := Lib.hid hB4; have HU := Lib.hid (HAu.out w4 HV4.out); clear hB4)
                  | ((with_reducible refine HU.out.mono ?_); rintro e w5 ⟨rfl, hB5⟩; have hB5' : Below w4.heap.size w4 (w5.alloc (oAu a)) := hB5.alloc hB5.size _; have HV5 := Lib.hid (HV4.out.trans (hB5'.mono HV4.out.size)); have HCB5 := Lib.hid (hkeep1 HV5.out HLT.out HN.out); clear zq lq zc lc; have zc := cellOf1 HCB5.out; have lc := lt_blk1 HCB5.out; have HS5 := Lib.hid ((HS4.out (by first | rfl | trivial)).of hB5'); have HRr := Lib.hid (st_right (cp := c4) HS5.out (HRC.out.below HV5.out (Nat.le_of_lt HLT.out)) HSm.out (Nat.le_trans (Nat.le_of_lt HLT.out) HV5.out.size) HRi.out.1); clear hB5 hB5')
                  | ((with_reducible refine HRr.out.mono ?_); rintro e w6 ⟨rfl, hB6⟩; have HS6 := Lib.hid (HS5.out.of hB6); have HV6 := Lib.hid (HV5.out.trans (hB6.mono HV5.out.size)); clear hB6))
                go_roundg (K - (k + 1))
                case measure => omega
                case rel => exact ⟨k + 1, nw + d, n + 1, A4, c4, M4, by omega, rfl, by go_num, by go_num, by omega, rfl, HS6, HV6⟩
                exfalso; omega
            · obtain ⟨E, m, hcase, hcall⟩ := st_apply (cp := cc) (HA.out.of HVq.out) HAU.out HAk.out.1 HSq.out s.a1 s.a2 ((nw : Int) + (d : Int)) hFn
              have HC := Lib.hid hcall
              clear hcall
              have HAu : Hid (∀ U, Below V.heap.size V U → Calls Try.prog 26 #[cnv c, .int .i64 s.a1] U fun e w' => e = .returned (.tuple #[auv (lkA c.au s.a1), .bool (lkB c.au s.a1)]) ∧ Below U.heap.size U w') := Lib.hid (fun U hU => HA.out U hU s.a1)
              generalize lkA c.au s.a1 = a at HAu
              obtain ⟨y, hy⟩ : ∃ y, lkB c.au s.a1 = y := ⟨_, rfl⟩
              rw [hy] at hcase HAu
              clear hy
              rcases hcase with ⟨rfl, rfl⟩ | ⟨rfl, rfl, rfl⟩ | ⟨rfl, rfl, rfl⟩ | ⟨rfl, rfl, rfl⟩
              · go_wp2_with (first
                  | ((with_reducible refine HC.out.mono ?_); rintro e w4 ⟨A4, c4, M4, rfl, HS4, hB4⟩; have HV4 := Lib.hid (HVq.out.trans (hB4.mono HVq.out.size)); have HNq4 := Lib.hid (hkeep1 hB4 (by simp) HNq.out); have HCB4 := Lib.hid (hkeep1 HV4.out HLT.out HN.out); have zq := cellOf1 HNq4.out; have lq := lt_blk1 HNq4.out; have zc := cellOf1 HCB4.out; have lc := lt_blk1 HCB4.out; have HB4 := Lib.hid hB4; have HU := Lib.hid (HAu.out w4 HV4.out); clear hB4)
                  | ((with_reducible refine HU.out.mono ?_); rintro e w5 ⟨rfl, hB5⟩; have hB5' : Below w4.heap.size w4 (w5.alloc (oAu a)) := hB5.alloc hB5.size _; have HV5 := Lib.hid (HV4.out.trans (hB5'.mono HV4.out.size)); have HCB5 := Lib.hid (hkeep1 HV5.out HLT.out HN.out); clear zq lq zc lc; have zc := cellOf1 HCB5.out; have lc := lt_blk1 HCB5.out; have HS5 := Lib.hid ((HSq.out.of HB4.out).of hB5'); have HRr := Lib.hid (st_right (cp := cc) HS5.out (HRC.out.below HV5.out (Nat.le_of_lt HLT.out)) HSm.out (Nat.le_trans (Nat.le_of_lt HLT.out) HV5.out.size) HRi.out.1); clear hB5 hB5')
                  | ((with_reducible refine HRr.out.mono ?_); rintro e w6 ⟨rfl, hB6⟩; have HS6 := Lib.hid (HS5.out.of hB6); have HV6 := Lib.hid (HV5.out.trans (hB6.mono HV5.out.size)); clear hB6))
                go_roundg (K - (k + 1))
                case measure => omega
                case rel => exact ⟨k + 1, nw + d, n, A1, cc, M, by omega, rfl, by go_num, by go_num, by omega, rfl, HS6, HV6⟩
              · go_wp2_with (first
                  | ((with_reducible refine HC.out.mono ?_); rintro e w4 ⟨A4, c4, M4, rfl, HS4, hB4⟩; have HV4 := Lib.hid (HVq.out.trans (hB4.mono HVq.out.size)); have HNq4 := Lib.hid (hkeep1 hB4 (by simp) HNq.out); have HCB4 := Lib.hid (hkeep1 HV4.out HLT.out HN.out); have zq := cellOf1 HNq4.out; have lq := lt_blk1 HNq4.out; have zc := cellOf1 HCB4.out; have lc := lt_blk1 HCB4.out; have HB4 := Lib.hid hB4; have HU := Lib.hid (HAu.out w4 HV4.out); clear hB4)
                  | ((with_reducible refine HU.out.mono ?_); rintro e w5 ⟨rfl, hB5⟩; have hB5' : Below w4.heap.size w4 (w5.alloc (oAu a)) := hB5.alloc hB5.size _; have HV5 := Lib.hid (HV4.out.trans (hB5'.mono HV4.out.size)); have HCB5 := Lib.hid (hkeep1 HV5.out HLT.out HN.out); clear zq lq zc lc; have zc := cellOf1 HCB5.out; have lc := lt_blk1 HCB5.out; have HS5 := Lib.hid ((HSq.out.of HB4.out).of hB5'); have HRr := Lib.hid (st_right (cp := cc) HS5.out (HRC.out.below HV5.out (Nat.le_of_lt HLT.out)) HSm.out (Nat.le_trans (Nat.le_of_lt HLT.out) HV5.out.size) HRi.out.1); clear hB5 hB5')
                  | ((with_reducible refine HRr.out.mono ?_); rintro e w6 ⟨rfl, hB6⟩; have HS6 := Lib.hid (HS5.out.of hB6); have HV6 := Lib.hid (HV5.out.trans (hB6.mono HV5.out.size)); clear hB6))
                go_roundg (K - (k + 1))
                case measure => omega
                case rel => exact ⟨k + 1, nw + d, 16, A1, cc, M, by omega, rfl, by go_num, by go_num, by omega, rfl, HS6, HV6⟩
              · have hme : ((m : Int) == (m : Int)) = true := by simp
                go_wp2_with (first
                  | ((with_reducible refine HC.out.mono ?_); rintro e w4 ⟨A4, c4, M4, rfl, HS4, hB4⟩; have HV4 := Lib.hid (HVq.out.trans (hB4.mono HVq.out.size)); have HNq4 := Lib.hid (hkeep1 hB4 (by simp) HNq.out); have HCB4 := Lib.hid (hkeep1 HV4.out HLT.out HN.out); have zq := cellOf1 HNq4.out; have lq := lt_blk1 HNq4.out; have zc := cellOf1 HCB4.out; have lc := lt_blk1 HCB4.out; have HB4 := Lib.hid hB4; have HU := Lib.hid (HAu.out w4 HV4.out); clear hB4)
                  | ((with_reducible refine HU.out.mono ?_); rintro e w5 ⟨rfl, hB5⟩; have hB5' : Below w4.heap.size w4 (w5.alloc (oAu a)) := hB5.alloc hB5.size _; have HV5 := Lib.hid (HV4.out.trans (hB5'.mono HV4.out.size)); have HCB5 := Lib.hid (hkeep1 HV5.out HLT.out HN.out); clear zq lq zc lc; have zc := cellOf1 HCB5.out; have lc := lt_blk1 HCB5.out; have HS5 := Lib.hid ((HS4.out (by first | rfl | trivial)).of hB5'); have HRr := Lib.hid (st_right (cp := c4) HS5.out (HRC.out.below HV5.out (Nat.le_of_lt HLT.out)) HSm.out (Nat.le_trans (Nat.le_of_lt HLT.out) HV5.out.size) HRi.out.1); clear hB5 hB5')
                  | ((with_reducible refine HRr.out.mono ?_); rintro e w6 ⟨rfl, hB6⟩; have HS6 := Lib.hid (HS5.out.of hB6); have HV6 := Lib.hid (HV5.out.trans (hB6.mono HV5.out.size)); clear hB6))
                go_roundg (K - (k + 1))
                case measure => omega
                case rel => exact ⟨k + 1, nw + d, _, A4, c4, M4, by omega, rfl, by go_num, by go_num, by omega, rfl, HS6, HV6⟩
              · have hme : (((n + 1 : Nat) : Int) == (n : Int)) = false := by simp; omega
                go_wp2_with (first
                  | ((with_reducible refine HC.out.mono ?_); rintro e w4 ⟨A4, c4, M4, rfl, HS4, hB4⟩; have HV4 := Lib.hid (HVq.out.trans (hB4.mono HVq.out.size)); have HNq4 := Lib.hid (hkeep1 hB4 (by simp) HNq.out); have HCB4 := Lib.hid (hkeep1 HV4.out HLT.out HN.out); have zq := cellOf1 HNq4.out; have lq := lt_blk1 HNq4.out; have zc := cellOf1 HCB4.out; have lc := lt_blk1 HCB4.out; have HB4 := Lib.hid hB4; have HU := Lib.hid (HAu.out w4 HV4.out); clear hB4)
                  | ((with_reducible refine HU.out.mono ?_); rintro e w5 ⟨rfl, hB5⟩; have hB5' : Below w4.heap.size w4 (w5.alloc (oAu a)) := hB5.alloc hB5.size _; have HV5 := Lib.hid (HV4.out.trans (hB5'.mono HV4.out.size)); have HCB5 := Lib.hid (hkeep1 HV5.out HLT.out HN.out); clear zq lq zc lc; have zc := cellOf1 HCB5.out; have lc := lt_blk1 HCB5.out; have HS5 := Lib.hid ((HS4.out (by first | rfl | trivial)).of hB5'); have HRr := Lib.hid (st_right (cp := c4) HS5.out (HRC.out.below HV5.out (Nat.le_of_lt HLT.out)) HSm.out (Nat.le_trans (Nat.le_of_lt HLT.out) HV5.out.size) HRi.out.1); clear hB5 hB5')
                  | ((with_reducible refine HRr.out.mono ?_); rintro e w6 ⟨rfl, hB6⟩; have HS6 := Lib.hid (HS5.out.of hB6); have HV6 := Lib.hid (HV5.out.trans (hB6.mono HV5.out.size)); clear hB6))
                go_roundg (K - (k + 1))
                case measure => omega
                case rel => exact ⟨k + 1, nw + d, n + 1, A4, c4, M4, by omega, rfl, by go_num, by go_num, by omega, rfl, HS6, HV6⟩
                exfalso; omega
            · obtain ⟨n1, n2, hn12, hcall⟩ := st_expire (cp := cc) HSq.out ((nw : Int) + (d : Int))
              have HC := Lib.hid hcall
              clear hcall
              subst hn12
              go_wp2_with (first
                | ((with_reducible refine HC.out.mono ?_); rintro e w4 ⟨A4, c4, A5, c5, M4, rfl, HS4, hB4⟩; have HV4 := Lib.hid (HVq.out.trans (hB4.mono HVq.out.size)); have HCB4 := Lib.hid (hkeep1 HV4.out HLT.out HN.out); have zc := cellOf1 HCB4.out; have lc := lt_blk1 HCB4.out; have HRr := Lib.hid (st_right (cp := c4) HS4.out (HRC.out.below HV4.out (Nat.le_of_lt HLT.out)) HSm.out (Nat.le_trans (Nat.le_of_lt HLT.out) HV4.out.size) HRi.out.1); clear hB4)
                | ((with_reducible refine HRr.out.mono ?_); rintro e w6 ⟨rfl, hB6⟩; have HS6 := Lib.hid (HS4.out.of hB6); have HV6 := Lib.hid (HV4.out.trans (hB6.mono HV4.out.size)); clear hB6))
              go_roundg (K - (k + 1))
              case measure => omega
              case rel => exact ⟨k + 1, nw + d, n1, A4, c4, M4, by omega, rfl, by go_num, by go_num, by omega, rfl, HS6, HV6⟩
            · obtain ⟨m, q, hcall⟩ := st_take (cp := cc) (HA.out.of HVq.out) HSq.out s.a1 HFs.out.2.1
              have HC := Lib.hid hcall
              clear hcall
              go_wp2_with (first
                | ((with_reducible refine HC.out.mono ?_); rintro e w4 ⟨A4, c4, M4, rfl, HS4, hB4⟩; have HV4 := Lib.hid (HVq.out.trans (hB4.mono HVq.out.size)); have HCB4 := Lib.hid (hkeep1 HV4.out HLT.out HN.out); have zc := cellOf1 HCB4.out; have lc := lt_blk1 HCB4.out; have HRr := Lib.hid (st_right (cp := c4) HS4.out (HRC.out.below HV4.out (Nat.le_of_lt HLT.out)) HSm.out (Nat.le_trans (Nat.le_of_lt HLT.out) HV4.out.size) HRi.out.1); clear hB4)
                | ((with_reducible refine HRr.out.mono ?_); rintro e w6 ⟨rfl, hB6⟩; have HS6 := Lib.hid (HS4.out.of hB6); have HV6 := Lib.hid (HV4.out.trans (hB6.mono HV4.out.size)); clear hB6))
              go_roundg (K - (k + 1))
              case measure => omega
              case rel => exact ⟨k + 1, nw + d, q, A4, c4, M4, by omega, rfl, by go_num, by go_num, by omega, rfl, HS6, HV6⟩
          · have hlt' : decide ((k : Int) < K) = false := by simp; omega
            have hkK : k = K := by omega
            subst hkK
            have hcb := hkeep1 HW.out HLT.out HN.out
            have zb := cellOf1 hcb
            have lb := lt_blk1 hcb
            go_wp2
            clear zb lb hcb
            have hnw7 : nw ≤ 700 := by omega
            have HFn : Hid (Fits (nw : Int)) := Lib.hid ⟨by omega, by omega⟩
            obtain ⟨W4, hW4⟩ : ∃ W4, W4 = wr := ⟨_, rfl⟩
            subst hW4
            have hau70 : c.au.length ≤ 1000000 := by have := HSm.out.aus; omega
            go_loopg [20] c.au.length (fun gh s20 wr => ∃ (i : Nat), i ≤ c.au.length ∧ gh = c.au.length - i ∧ s20 = .int .i64 (i : Int) ∧ Hid (Below V.heap.size V wr))
            case atStart => exact ⟨0, by omega, rfl, rfl, HW⟩
            case round =>
              obtain ⟨i, hi, rfl, rfl, HWi⟩ := hrel
              have hcb := hkeep1 HWi.out HLT.out HN.out
              have zb := cellOf1 hcb
              have lb := lt_blk1 hcb
              by_cases hil : i < c.au.length
              · obtain ⟨a, ha⟩ : ∃ a, c.au[i]? = some a := ⟨_, List.getElem?_eq_getElem hil⟩
                obtain ⟨p, off, hUA, hpl, g0, g1, g2, g3, g4, g5, g6⟩ := rowAu HRC.out.aus ha HWi.out (Nat.le_of_lt HLT.out)
                have hil' : (i : Int) < c.au.length := by omega
                have hpw : p < wr.heap.size := by have := HWi.out.size; have := HLT.out; omega
                have HLk := Lib.hid (lk_self HAk.out.2 ha)
                have hok := HAk.out.1 a (List.mem_of_getElem? ha)
                have HNa := Lib.hid (HAU.out a (List.mem_of_getElem? ha))
                obtain ⟨st, hst⟩ : ∃ st : Nat, a.stacks = (st : Int) := ⟨a.stacks.toNat, by have := hok.2.1.1; omega⟩
                have hst1 : 1 ≤ st ∧ st ≤ 100 := by have h1 := hok.2.1.1; have h2 := hok.2.1.2; rw [hst] at h1 h2; omega
                obtain ⟨hst1, hst2⟩ := hst1
                have htk1 : 1 ≤ a.ticks := hok.1.1
                have htk2 : a.ticks ≤ 1000000 := hok.1.2
                have HBa : Hid (Below wr.heap.size wr (wr.alloc (oAu a))) := Lib.hid (below_box _ _)
                have HVa := Lib.hid (HWi.out.trans (HBa.out.mono HWi.out.size))
                have HNb := Lib.hid (heap_alloc_new wr (oAu a))
                have HAf : Hid (∀ U, Below V.heap.size V U → Calls Try.prog 9 #[cnv c, .slice none 0 0, .int .i64 a.id, .int .i64 1, .int .i64 (nw : Int)] U (R1 U [agR a nw 1])) := Lib.hid (fun U hU => ag_first (HA.out.of hU) HAU.out HLk.out _ HFn.out)
                have HAn : Hid (∀ U, Below V.heap.size V U → ∀ (j : Nat) (A : Option Addr) (cp : Nat), 1 ≤ j → j < st → RW ac U U.heap.size A [agR a nw (j : Int)] → Calls Try.prog 9 #[cnv c, .slice A 1 cp, .int .i64 a.id, .int .i64 1, .int .i64 (nw : Int)] U (R1 U [agR a nw ((j : Int) + 1)])) := Lib.hid (fun U hU j A cp h1 h2 hr => ag_next (HA.out.of hU) HAU.out HLk.out _ HFn.out HNa.out (by omega) (by rw [hst]; omega) hr (Nat.le_refl _))
                rw [cnv_u hUA] at HAf HAn
                rw [hUA] at zb
                rw [hst] at g4
                have HC1 := Lib.hid (HAf.out _ HVa.out)
                have HST := Lib.hid hst; have HUA := Lib.hid hUA
                clear ha hok hUA hcb hst
                obtain ⟨W6, hW6⟩ : ∃ W6, W6 = wr := ⟨_, rfl⟩
                subst hW6
                have HNb2 : Hid ((W6.alloc (.cells #[.int .i64 a.id, .int .i64 a.kind, .int .i64 a.ticks, .int .i64 a.every, .int .i64 (st : Int), .int .i64 a.amount, .bool a.harm] 54)).heap[W6.heap.size]? = some (.cells #[.int .i64 a.id, .int .i64 a.kind, .int .i64 a.ticks, .int .i64 a.every, .int .i64 (st : Int), .int .i64 a.amount, .bool a.harm] 54)) := Lib.hid (heap_alloc_new W6 _)
                have HEq : Hid (W6.alloc (oAu a) = W6.alloc (.cells #[.int .i64 a.id, .int .i64 a.kind, .int .i64 a.ticks, .int .i64 a.every, .int .i64 (st : Int), .int .i64 a.amount, .bool a.harm] 54)) := Lib.hid (by rw [← HST.out])
                rw [HEq.out] at HC1 HVa HBa
                clear HNb HEq
                go_wp2_with (first | ((with_reducible refine HC1.out.mono ?_); rintro e w5 ⟨A5, c5, rfl, HO5, hB5⟩; have HB5 := Lib.hid (HVa.out.trans (hB5.mono HVa.out.size)); have HNa5 := Lib.hid (hkeep1 hB5 (by simp) HNb2.out); have HR5 := Lib.hid HO5.out.pw.rw'; clear hB5))
                clear zb lb g0 g1 g2 g3 g4 g5 g6
                go_loopg [22, 23, 24] 99 (fun gh s22 s23 s24 wr => ∃ (j : Nat) (A : Option Addr) (cc : Nat), 1 ≤ j ∧ j ≤ st ∧ gh = 100 - j ∧ s24 = .int .i64 (j : Int) ∧ s23 = .int .i64 0 ∧ s22 = .slice A 1 cc ∧ Hid (RW ac wr wr.heap.size A [agR a nw (j : Int)]) ∧ Hid (Below V.heap.size V wr) ∧ Hid (wr.heap[W6.heap.size]? = some (.cells #[.int .i64 a.id, .int .i64 a.kind, .int .i64 a.ticks, .int .i64 a.every, .int .i64 (st : Int), .int .i64 a.amount, .bool a.harm] 54)))
                case atStart => exact ⟨1, A5, c5, by omega, by omega, rfl, rfl, rfl, rfl, HR5, HB5, HNa5⟩
                case round =>
                  obtain ⟨j, A7, c7, hj1, hj2, rfl, rfl, rfl, rfl, HR7, HB7, HN7⟩ := hrel
                  have hcb := hkeep1 HB7.out HLT.out HN.out
                  have zb := cellOf1 hcb
                  have lb := lt_blk1 hcb
                  rw [HUA.out] at zb
                  have za := cellOf1 HN7.out
                  have la := lt_blk1 HN7.out
                  by_cases hjs : j < st
                  · have hjs' : (j : Int) < (st : Int) := by omega
                    have HC2 := Lib.hid (HAn.out wr HB7.out j A7 c7 hj1 hjs HR7.out)
                    clear hcb
                    go_wp2_with (first | ((with_reducible refine HC2.out.mono ?_); rintro e w8 ⟨A8, c8, rfl, HO8, hB8⟩; have HB8 := Lib.hid (HB7.out.trans (hB8.mono HB7.out.size)); have HN8 := Lib.hid (hkeep1 hB8 la HN7.out); have HR8 := Lib.hid HO8.out.pw.rw'; clear hB8))
                    go_roundg (100 - (j + 1))
                    case measure => omega
                    case rel => exact ⟨j + 1, A8, c8, by omega, by omega, rfl, by go_num, rfl, rfl, HR8, HB8, HN8⟩
                  · have hjs' : decide ((j : Int) < (st : Int)) = false := by simp; omega
                    have hje : j = st := by omega
                    subst hje
                    obtain ⟨b7, o7, hA7, hb7, hc7⟩ := HR7.out.at' (i := 0) rfl
                    subst hA7
                    obtain ⟨q0, q1, q2, q3, q4, q5⟩ := cellsAc (o := o7 + 0 * 6) hc7
                    rw [Nat.zero_mul, Nat.add_zero] at q0 q1 q2 q3 q4 q5
                    have q2' : wr.cell? ⟨b7, o7 + 2, none⟩ = some (.int .i64 (j : Int)) := q2
                    have e3 : held ((nw : Int) + a.ticks) = (nw : Int) + a.ticks := held_in ⟨by omega, by omega⟩
                    have q3' : wr.cell? ⟨b7, o7 + 3, none⟩ = some (.int .i64 ((nw : Int) + a.ticks)) := by rw [← e3]; exact q3
                    clear hc7 hcb q0 q1 q2 q3 q4 q5 e3
                    have hw9 : IntKind.i64.wrap ((nw : Int) + a.ticks) = (nw : Int) + a.ticks := IntWalk.i64_in _ (by omega)
                    have hw8 : wrap64 ((nw : Int) + a.ticks) = (nw : Int) + a.ticks := IntWalk.wrap64_in _ (by omega)
                    go_wp2
                    go_quiet (fail)
                    go_wp2
                    go_roundg (c.au.length - (i + 1))
                    case measure => omega
                    case rel => exact ⟨i + 1, by omega, rfl, by go_num, Lib.hid (below_drewN HB7.out _)⟩
              · have hil' : decide ((i : Int) < c.au.length) = false := by simp; omega
                go_wp2
                go_ret
                exact ⟨rfl, HX.out.trans (HWi.out.mono HX.out.size)⟩


set_option maxRecDepth 100000 in
theorem lifted (os : Os) (started : os.Started) (H : Type) (enc : TypeId × Value → H) :
    ReturnsInHanded {} Try.checked os 5 .any (Rows.auraStaysSpec.pre6 enc Try.prog Try.f5 Rows.auraStaysRow.domain false) (Rows.auraStaysSpec.post enc Try.prog Try.f5 false true false false) := by
  refine returnsInHanded_of_change (C := Try.checked) own started (by kernel_rfl) Try.func5
    (ChangeSpec.witness6 (enc := enc) (C := Try.checked) false ⟨#[], #[.agg #[.slice none 0 0, .slice none 0 0, .slice none 0 0, .int .i64 0, .int .i64 0, .slice none 0 0, .int .i64 0, .int .i64 0, .int .i64 0, .int .i64 0], .slice none 0 0, .slice none 0 0], []⟩ 8 (by kernel_rfl) (by kernel_rfl) (by kernel_rfl) (by kernel_rfl)) ?_
  intro W base args ds gs before hval0 hW hcnd _
  have hval : ∀ (j : Nat) t v, Try.f5.params[j]? = some t → args[j]? = some v → Value.okWide Try.prog W .any base t v := hval0
  have hW' := hW
  obtain ⟨p, q, hA0, hV, rfl, hfz, hnd⟩ := hW
  have hA : DataW.TrodAll enc Try.prog W 0 (fun _ => true) true Try.f5.params.toList args.toList ds p := hA0
  rw [Try.params5] at hA hval
  obtain ⟨v0, vs0, d0, ds0, p0, q0, hargs, rfl, rfl, h0, r0⟩ := trodAll_cons hA
  obtain ⟨v1, vs1, d1, ds1, p1, q1, rfl, rfl, rfl, h1, r1⟩ := trodAll_cons r0
  obtain ⟨v2, vs2, d2, ds2, p2, q2, rfl, rfl, rfl, h2, r2⟩ := trodAll_cons r1
  obtain ⟨rfl, rfl, rfl⟩ := trodAll_nil r2
  obtain rfl : args = #[v0, v1, v2] := by cases args; simp_all
  obtain ⟨rfl, rfl⟩ := trodVars_none hV
  clear hA0 hval0
  have hlt0 : ∀ x ∈ p0, x.block < W.heap.size := fun x hx => hW'.lt x (by simp [hx])
  have hk0 := h0
  obtain ⟨c0, rfl, hr0, hf0⟩ := Open.viewC (hval 0 31 v0 rfl rfl) h0
  have hlt1 : ∀ x ∈ p1, x.block < W.heap.size := fun x hx => hW'.lt x (by simp [hx])
  have hk1 := h1
  obtain ⟨A1, c1, l1, rfl, hr1, hf1⟩ := Kop.viewAc (hval 1 32 v1 rfl rfl) h1
  have hlt2 : ∀ x ∈ p2, x.block < W.heap.size := fun x hx => hW'.lt x (by simp [hx])
  have hk2 := h2
  obtain ⟨A2, c2, l2, rfl, hr2, hf2⟩ := Open.viewQ4 (hval 2 51 v2 rfl rfl) h2
  simp only [List.append_nil] at hW'
  refine (walk W c0 hr0 hf0 A1 c1 l1 hr1 hf1 A2 c2 l2 hr2 hf2).mono fun e W' ⟨he, hg⟩ => ?_
  subst he
  exact ⟨_, rfl, _, _, _, [], _, [], hW', (trodAll_cons_mk (shut_bool Try.underlying4 _) trodAll_mk0), (trodAll_cons_mk (Below.trod Kop.laidOut (by kernel_rfl) (of_decide_eq_true (by kernel_rfl)) hk0 hg hlt0) (trodAll_cons_mk (Below.trod Kop.laidOut (by kernel_rfl) (of_decide_eq_true (by kernel_rfl)) hk1 hg hlt1) (trodAll_cons_mk (Below.trod Kop.laidOut (by kernel_rfl) (of_decide_eq_true (by kernel_rfl)) hk2 hg hlt2) trodAll_mk0))), rfl, hg.frame _, fun h => by cases h⟩

theorem over : Rows.auraStaysRow.holds Try.pinned (OpenSpec.ofChange Rows.auraStaysSpec) :=
  OpenClaim.holds_of_wide 5 Try.f5 rfl rfl rfl rfl rfl rfl rfl ⟨rfl, rfl, rfl, rfl, rfl⟩ rfl rfl rfl rfl rfl (by kernel_rfl) Try.func5 (by kernel_rfl)
    (of_decide_eq_true (by kernel_rfl)) (by unfold Func.isWrapper; first | (rw [if_pos (by decide +kernel)]; kernel_rfl) | (rw [if_neg (by decide +kernel)]; exact ⟨rfl, rfl⟩))
    (fun os started H enc _ => lifted os started H enc)

/-- The given statement. -/
theorem proved : Rows.AuraStaysSaid :=
  over
#print axioms proved
end Go.Proofs.Ytijobbdgiaiocaa.auraStays
