/-
  The law of rows: what becomes of a row is what the document says; what was handed in stays.
-/
import Derived.Test.YtijobbdgiaiocaaSma
import Derived.Test.YtijobbdgiaiocaaDcb
import Derived.Test.YtijobbdgiaiocaaDcc
import Derived.Test.YtijobbdgiaiocaaDcd
import Derived.Test.YtijobbdgiaiocaaDcf
import Derived.Test.YtijobbdgiaiocaaDcg
import Derived.Test.YtijobbdgiaiocaaFew
import Derived.Test.YtijobbdgiaiocaaOpen
import Derived.Test.YtijobbdgiaiocaaKop
import Derived.WalkKit
import Derived.ProofKit
import Derived.OpenShut
namespace Go.Proofs.Ytijobbdgiaiocaa.auraTurns
open Go.ChangeShapes Go.WideShapes Go.ChangeAt Go.RowKit Con
set_option linter.unusedVariables false

theorem own : ownKnob Try.prog.godebug = none := by kernel_rfl

theorem ap_len (L : List Au) (l : List Ac) (id src now : Int) : (apL L l id src now).length ≤ l.length + 1 := by
  unfold apL
  split
  · split
    · simp
    · split <;> simp
  · simp
theorem tf {w w3 : World} {c : Cn} {A A0 : Option Addr} {cp c0 N : Nat} {l : List Ac} (hn3 : w3.heap[w.heap.size]? = some (oCn c)) (hs : Sm c) (hrc : RC w3 w.heap.size c) (hau : ∀ a ∈ c.au, NAu a) (hac : ∀ a ∈ l, NAc a) (hln : l.length = N) (hn60 : N ≤ 60) (hI : RW ac w3 w3.heap.size A0 l) (hR : RW ac w3 w.heap.size A l) (hz : w.heap.size ≤ w3.heap.size) (id src now : Int) (hid : Fits id) (hno : Fits now) (rb : Bool) (hrb : rb = true ↔ RightC c ∧ RightL c.au l) (V : World) (hV : Below w3.heap.size w3 V) :
    V.heap[w.heap.size]? = some (oCn c) ∧
    Calls Try.prog 9 #[cnv c, .slice A0 N c0, .int .i64 id, .int .i64 src, .int .i64 now] V (ApA V (apL c.au l id src now) (apE c.au l id src)) ∧
    Calls Try.prog 10 #[cnv c, .slice A N cp, .int .i64 id, .int .i64 src, .int .i64 now] V (ApA V (apL c.au l id src now) (apE c.au l id src)) ∧
    Calls Try.prog 11 #[.slice A0 N c0, .int .i64 now] V (DuA V (goS (exP l now) l N) (goS (fun i => !exP l now i) l N)) ∧
    Calls Try.prog 12 #[.slice A N cp, .int .i64 now] V (DuA V (goS (exP l now) l N) (goS (fun i => !exP l now i) l N)) ∧
    Calls Try.prog 14 #[cnv c, .slice A0 N c0, .int .i64 now] V (DuA V (l.map (tkA c.au now)) (tkD c.au now l N)) ∧
    Calls Try.prog 15 #[cnv c, .slice A N cp, .int .i64 now] V (DuA V (l.map (tkA c.au now)) (tkD c.au now l N)) ∧
    Calls Try.prog 16 #[cnv c, .slice A0 N c0, .int .i64 id] V (DuA V (goS (diP c.au id l) l N) (goS (fun i => !diP c.au id l i) l N)) ∧
    Calls Try.prog 17 #[cnv c, .slice A N cp, .int .i64 id] V (DuA V (goS (diP c.au id l) l N) (goS (fun i => !diP c.au id l i) l N)) ∧
    Calls Try.prog 18 #[cnv c, .slice A0 N c0] V (fun e w' => e = .returned (.bool rb) ∧ Below V.heap.size V w') ∧
    Calls Try.prog 19 #[cnv c, .slice A N cp] V (fun e w' => e = .returned (.bool rb) ∧ Below V.heap.size V w') ∧
    Calls Try.prog 13 #[.slice A0 N c0, .slice A N cp] V (fun e w' => e = .returned (.bool true) ∧ Below V.heap.size V w') := by
  have hRC := hrc.below hV hz
  have hwV := Nat.le_trans hz hV.size
  have hA := auC hRC hwV hs
  have hRu := ruC hRC hwV hs
  have hIV := hI.below hV (Nat.le_refl _)
  have hRV := hR.below hV hz
  have hN : (N : Int) ≤ 100000 := by omega
  exact ⟨hkeep1 hV (Nat.lt_of_lt_of_le (lt_blk1 hn3) (Nat.le_refl _)) hn3, apply_any id src now hA hau hac hln hN hIV hV.size hno, rapply_any id src now hRu hau hac hln hN hRV hwV hno, expire_any now hln hN hIV hV.size, rexpire_any now hln hN hRV hwV, tick_any now hA hau hac hln hN hIV hV.size, rtick_any now hRu hau hac hln hN hRV hwV, dispel_any id hA hln hN hIV hV.size hid, rdispel_any id hRu hln hN hRV hwV, aright_any (hRC.more hz) hs hln hN hIV hV.size rb hrb, raright_any hRC hs hln hN hRV hwV rb hrb, same_acB w3.heap.size w.heap.size A0 A N c0 cp l V hln hIV hRV (by omega)⟩
set_option maxRecDepth 20000 in
set_option maxHeartbeats 8000000 in
theorem walk (w : World) (c : Cn) (hr : RC w w.heap.size c) (hu : ∀ a ∈ c.au, NAu a) (A : Option Addr) (cp : Nat) (l : List Ac) (hrl : RW ac w w.heap.size A l) (hf : ∀ x ∈ l, FAc x) (id : Int) (hid : Fits id) (src : Int) (hsr : Fits src) (now : Int) (hno : Fits now) :
    Calls Try.prog 3 #[cnv c, .slice A l.length cp, .int .i64 id, .int .i64 src, .int .i64 now] w fun e w' => e = .returned (.bool true) ∧ Below w.heap.size w w' := by
  have hb := below_box w (oCn c)
  obtain ⟨x, hx⟩ := bex (FewP c)
  have HX := Lib.hid hb; have HN := Lib.hid (heap_alloc_new w (oCn c)); have HR := Lib.hid (hrl.below hb (Nat.le_refl _)); have HRC := Lib.hid (hr.below hb (Nat.le_refl _))
  have HLT : Hid (w.heap.size < (w.alloc (oCn c)).heap.size) := Lib.hid (by simp)
  have HAU := Lib.hid hu; have HAC : Hid (∀ a ∈ l, NAc a) := Lib.hid (fun a ha => (hf a ha).nac)
  have HQ := Lib.hid hx
  have HSmall := Lib.hid (small_any (w.alloc (oCn c)))
  clear hr hu hrl hf hb hx hsr
  obtain ⟨N, hN⟩ : ∃ N, l.length = N := ⟨_, rfl⟩
  have HLN := Lib.hid hN
  rw [hN]
  clear hN
  go_enter Try.func3, Try.ntmps3
  cases x with
  | false =>
    go_wp2_with (first
      | ((with_reducible refine HSmall.out.mono ?_); rintro e w1 ⟨rfl, hB1⟩; have hcb := hkeep1 hB1 HLT.out HN.out; have z1 := cellOf1 hcb; have l1 := lt_blk1 hcb; have HF := Lib.hid (few_c c (HRC.out.below hB1 (Nat.le_of_lt HLT.out)) (Nat.le_trans (Nat.le_of_lt HLT.out) hB1.size) false HQ.out))
      | ((with_reducible refine HF.out.mono ?_); rintro e w2 ⟨rfl, hB2⟩))
    go_ret
    exact ⟨rfl, HX.out.trans ((hB1.trans (hB2.mono hB1.size)).mono HX.out.size)⟩
  | true =>
    by_cases hbig : 60 < (N : Int)
    · go_wp2_with (first
        | ((with_reducible refine HSmall.out.mono ?_); rintro e w1 ⟨rfl, hB1⟩; have hcb := hkeep1 hB1 HLT.out HN.out; have z1 := cellOf1 hcb; have l1 := lt_blk1 hcb; have HF := Lib.hid (few_c c (HRC.out.below hB1 (Nat.le_of_lt HLT.out)) (Nat.le_trans (Nat.le_of_lt HLT.out) hB1.size) true HQ.out))
        | ((with_reducible refine HF.out.mono ?_); rintro e w2 ⟨rfl, hB2⟩))
      go_ret
      exact ⟨rfl, HX.out.trans ((hB1.trans (hB2.mono hB1.size)).mono HX.out.size)⟩
    · have hbig' : decide (60 < (N : Int)) = false := by simp; omega
      have HSm : Hid (Sm c) := Lib.hid (HQ.out.1 rfl).sm
      have HLL : Hid (([] : List Ac).length + l.length ≤ 1000000) := Lib.hid (by have := HLN.out; simp; omega)
      have HN60 : Hid (N ≤ 60) := Lib.hid (by omega)
      clear hbig
      obtain ⟨rb, hrb⟩ := bex (RightC c ∧ RightL c.au l)
      have HTF := Lib.hid (fun w3 A0 c0 (h1 : w3.heap[w.heap.size]? = some (oCn c)) (h2 : RC w3 w.heap.size c) (h3 : RW ac w3 w3.heap.size A0 l) (h4 : RW ac w3 w.heap.size A l) (h5 : w.heap.size ≤ w3.heap.size) => tf (c0 := c0) (cp := cp) h1 HSm.out h2 HAU.out HAC.out HLN.out HN60.out h3 h4 h5 id src now hid hno rb hrb)
      obtain ⟨M, hM⟩ : ∃ M, apL c.au l id src now = M := ⟨_, rfl⟩
      obtain ⟨E, hE⟩ : ∃ E, apE c.au l id src = E := ⟨_, rfl⟩
      obtain ⟨X1, hX1⟩ : ∃ X, goS (exP l now) l N = X := ⟨_, rfl⟩
      obtain ⟨X2, hX2⟩ : ∃ X, goS (fun i => !exP l now i) l N = X := ⟨_, rfl⟩
      obtain ⟨T1, hT1⟩ : ∃ X, l.map (tkA c.au now) = X := ⟨_, rfl⟩
      obtain ⟨T2, hT2⟩ : ∃ X, tkD c.au now l N = X := ⟨_, rfl⟩
      obtain ⟨D1, hD1⟩ : ∃ X, goS (diP c.au id l) l N = X := ⟨_, rfl⟩
      obtain ⟨D2, hD2⟩ : ∃ X, goS (fun i => !diP c.au id l i) l N = X := ⟨_, rfl⟩
      rw [hM, hE, hX1, hX2, hT1, hT2, hD1, hD2] at HTF
      have hn60 := HN60.out
      have HM : Hid (M.length ≤ 61) := Lib.hid (by rw [← hM]; have := ap_len c.au l id src now; rw [HLN.out] at this; omega)
      have HX1 : Hid (X1.length ≤ 60) := Lib.hid (by rw [← hX1]; have := go_le (exP l now) l N; omega)
      have HX2 : Hid (X2.length ≤ 60) := Lib.hid (by rw [← hX2]; have := go_le (fun i => !exP l now i) l N; omega)
      have HT1 : Hid (T1.length ≤ 60) := Lib.hid (by rw [← hT1, List.length_map, HLN.out]; exact hn60)
      have HT2 : Hid (T2.length ≤ 60) := Lib.hid (by rw [← hT2]; have := td_le c.au now l N; omega)
      have HD1 : Hid (D1.length ≤ 60) := Lib.hid (by rw [← hD1]; have := go_le (diP c.au id l) l N; omega)
      have HD2 : Hid (D2.length ≤ 60) := Lib.hid (by rw [← hD2]; have := go_le (fun i => !diP c.au id l i) l N; omega)
      clear hM hE hX1 hX2 hT1 hT2 hD1 hD2 hrb hn60 hid hno
      go_wp2_with (first
        | ((with_reducible refine HSmall.out.mono ?_); rintro e w1 ⟨rfl, hB1⟩; have hcb := hkeep1 hB1 HLT.out HN.out; have z1 := cellOf1 hcb; have l1 := lt_blk1 hcb; have HN1 := Lib.hid hcb; have HRC1 := Lib.hid (HRC.out.below hB1 (Nat.le_of_lt HLT.out)); have HR1 := Lib.hid (HR.out.below hB1 (Nat.le_of_lt HLT.out)); have HB1 := Lib.hid hB1; have HF := Lib.hid (few_c c HRC1.out (Nat.le_trans (Nat.le_of_lt HLT.out) hB1.size) true HQ.out); clear hB1 hcb)
        | ((with_reducible refine HF.out.mono ?_); rintro e w2 ⟨rfl, hB2⟩; have hC2 : Below w1.heap.size w1 (w2.alloc (.cells #[] 42)) := hB2.alloc hB2.size _; have HV2 : Hid (Below w.heap.size w (w2.alloc (.cells #[] 42))) := Lib.hid (HX.out.trans ((HB1.out.trans (hC2.mono HB1.out.size)).mono HX.out.size)); have HR2 := Lib.hid (HR1.out.below hC2 (Nat.le_trans (Nat.le_of_lt HLT.out) HB1.out.size)); have HRC2 := Lib.hid (HRC1.out.below hC2 (Nat.le_trans (Nat.le_of_lt HLT.out) HB1.out.size)); have HN2 := Lib.hid (hkeep1 hC2 l1 HN1.out); have HO2 := Lib.hid (OW.room ac w2); have HZ2 : Hid (w.heap.size ≤ w2.heap.size ∧ w.heap.size < w2.heap.size ∧ w1.heap.size ≤ w2.heap.size) := Lib.hid (by have := hB2.size; have := HV2.out.size; omega); clear z1 hC2)
        | (at_builtin; refine wpList_app ac rfl 32 rfl (.tmp 36) (.tmp 37) rfl w2.heap.size w.heap.size (.slice (some ⟨w2.heap.size, 0, none⟩) 0 0) [] l A cp N HLN.out rfl rfl HO2.out HR2.out HLL.out (by simp) ?_; intro A0 c0 w3 lm HLM HO3 HS3 HB3; have hB3 : Below w2.heap.size (w2.alloc (.cells #[] 42)) w3 := (Below.refl _ _).grown HS3.out (by simp) (fun j hj => (HO2.out.lt hj).1); have HV3 : Hid (Below w.heap.size w w3) := Lib.hid (HV2.out.trans (hB3.mono HZ2.out.1)); have HN3 := Lib.hid (hkeep1 hB3 HZ2.out.2.1 HN2.out); have z3 := cellOf1 HN3.out; have l3 := lt_blk1 HN3.out; have HR3 := Lib.hid (HR2.out.below hB3 HZ2.out.1); have HRC3 := Lib.hid (HRC2.out.below hB3 HZ2.out.1); have hlm : lm = l := (by have := HLM.out; simpa using this); subst hlm; have HI3 := Lib.hid HO3.out.pw.rw'; have HA3 := Lib.hid (auC HRC3.out HV3.out.size HSm.out); have HRu3 := Lib.hid (ruC HRC3.out HV3.out.size HSm.out); have hlN := HLN.out; rw [hlN]; have HTV := Lib.hid (HTF.out w3 A0 c0 HN3.out HRC3.out HI3.out HR3.out HV3.out.size); have HB0 : Hid (Below w3.heap.size w3 w3) := Lib.hid (Below.refl _ _); clear z3 l3; have zb := cellOf1 (HTV.out w3 HB0.out).1; have lb := lt_blk1 (HTV.out w3 HB0.out).1; have HQ1 := Lib.hid (HTV.out w3 HB0.out).2.1)
        | ((with_reducible refine HQ1.out.mono ?_); rintro e w4 ⟨A1, c1, rfl, HOn1, hs1⟩; have hz1 := hs1.size; have HB1 : Hid (Below w3.heap.size w3 w4) := Lib.hid (HB0.out.trans (hs1.mono HB0.out.size)); have HOa1 := HOn1; clear zb lb; have zb := cellOf1 (HTV.out w4 HB1.out).1; have lb := lt_blk1 (HTV.out w4 HB1.out).1; have HQ2 := Lib.hid (HTV.out w4 HB1.out).2.2.1; clear hs1)
        | ((with_reducible refine HQ2.out.mono ?_); rintro e w5 ⟨A2, c2, rfl, HOn2, hs2⟩; have hz2 := hs2.size; have HOa2 := Lib.hid (HOa1.out.of hs2); have HB2 : Hid (Below w3.heap.size w3 w5) := Lib.hid (HB1.out.trans (hs2.mono HB1.out.size)); have HOb2 := HOn2; clear zb lb; have zb := cellOf1 (HTV.out w5 HB2.out).1; have lb := lt_blk1 (HTV.out w5 HB2.out).1; have HQ3 := Lib.hid (HTV.out w5 HB2.out).2.2.2.1; clear hs2)
        | ((with_reducible refine HQ3.out.mono ?_); rintro e w6 ⟨A3, c3, A4, c4, rfl, HTw3⟩; have hs3 := HTw3.out.below; have hz3 := hs3.size; have HOa3 := Lib.hid (HOa2.out.of hs3); have HOb3 := Lib.hid (HOb2.out.of hs3); have HB3 : Hid (Below w3.heap.size w3 w6) := Lib.hid (HB2.out.trans (hs3.mono HB2.out.size)); have HOc3 := Lib.hid HTw3.out.a; have HOd3 := Lib.hid HTw3.out.b; clear zb lb; have zb := cellOf1 (HTV.out w6 HB3.out).1; have lb := lt_blk1 (HTV.out w6 HB3.out).1; have HQ4 := Lib.hid (HTV.out w6 HB3.out).2.2.2.2.1; clear hs3)
        | ((with_reducible refine HQ4.out.mono ?_); rintro e w7 ⟨A5, c5, A6, c6, rfl, HTw4⟩; have hs4 := HTw4.out.below; have hz4 := hs4.size; have HOa4 := Lib.hid (HOa3.out.of hs4); have HOb4 := Lib.hid (HOb3.out.of hs4); have HOc4 := Lib.hid (HOc3.out.of hs4); have HOd4 := Lib.hid (HOd3.out.of hs4); have HB4 : Hid (Below w3.heap.size w3 w7) := Lib.hid (HB3.out.trans (hs4.mono HB3.out.size)); have HOe4 := Lib.hid HTw4.out.a; have HOf4 := Lib.hid HTw4.out.b; clear zb lb; have HQ5 := Lib.hid (same_acB w7.heap.size w7.heap.size A1 A2 M.length c1 c2 M w7 rfl (HOa4.out.pw.rw') (HOb4.out.pw.rw') (by have := HM.out; omega)); clear hs4)
        | ((with_reducible refine HQ5.out.mono ?_); rintro e w8 ⟨rfl, hs5⟩; have hz5 := hs5.size; have HOa5 := Lib.hid (HOa4.out.of hs5); have HOb5 := Lib.hid (HOb4.out.of hs5); have HOc5 := Lib.hid (HOc4.out.of hs5); have HOd5 := Lib.hid (HOd4.out.of hs5); have HOe5 := Lib.hid (HOe4.out.of hs5); have HOf5 := Lib.hid (HOf4.out.of hs5); have HB5 : Hid (Below w3.heap.size w3 w8) := Lib.hid (HB4.out.trans (hs5.mono HB4.out.size)); have HQ6 := Lib.hid (same_acB w8.heap.size w8.heap.size A3 A5 X1.length c3 c5 X1 w8 rfl (HOc5.out.pw.rw') (HOe5.out.pw.rw') (by have := HX1.out; omega)); clear hs5)
        | ((with_reducible refine HQ6.out.mono ?_); rintro e w9 ⟨rfl, hs6⟩; have hz6 := hs6.size; have HOa6 := Lib.hid (HOa5.out.of hs6); have HOb6 := Lib.hid (HOb5.out.of hs6); have HOc6 := Lib.hid (HOc5.out.of hs6); have HOd6 := Lib.hid (HOd5.out.of hs6); have HOe6 := Lib.hid (HOe5.out.of hs6); have HOf6 := Lib.hid (HOf5.out.of hs6); have HB6 : Hid (Below w3.heap.size w3 w9) := Lib.hid (HB5.out.trans (hs6.mono HB5.out.size)); have HQ7 := Lib.hid (same_acB w9.heap.size w9.heap.size A4 A6 X2.length c4 c6 X2 w9 rfl (HOd6.out.pw.rw') (HOf6.out.pw.rw') (by have := HX2.out; omega)); clear hs6)
        | ((with_reducible refine HQ7.out.mono ?_); rintro e w10 ⟨rfl, hs7⟩; have hz7 := hs7.size; have HOa7 := Lib.hid (HOa6.out.of hs7); have HOb7 := Lib.hid (HOb6.out.of hs7); have HOc7 := Lib.hid (HOc6.out.of hs7); have HOd7 := Lib.hid (HOd6.out.of hs7); have HOe7 := Lib.hid (HOe6.out.of hs7); have HOf7 := Lib.hid (HOf6.out.of hs7); have HB7 : Hid (Below w3.heap.size w3 w10) := Lib.hid (HB6.out.trans (hs7.mono HB6.out.size)); clear hs7))
      have HMw := Lib.hid (HOa7.out.mono (base' := w3.heap.size) (HB0.out.size)).mw
      have HB6 := HB7
      go_loopg [23] M.length (fun gh s23 wr => ∃ (i : Nat), i ≤ M.length ∧ gh = M.length - i ∧ s23 = .int .i64 i ∧ Hid (Below w3.heap.size w3 wr) ∧ Hid (MW wr w3.heap.size A1 (M.length * 6)))
      case atStart => exact ⟨0, by omega, rfl, rfl, HB6, HMw⟩
      case round =>
        obtain ⟨i, hi, rfl, rfl, HWr, HMr⟩ := hrel
        by_cases hil : i < M.length
        · obtain ⟨b, hA, hb0, hb1, ⟨v, hv⟩, hfz⟩ := HMr.out.at' (i := i * 6) (by omega)
          subst hA
          have hil' : (i : Int) < M.length := by omega
          have hm60 := HM.out
          have HBb := Lib.hid hb0
          clear hb0
          go_wp2
          go_roundg (M.length - (i + 1))
          case measure => omega
          case rel => exact ⟨i + 1, by omega, rfl, by go_num, Lib.hid (HWr.out.setCell (p := ⟨b, i * 6, none⟩) HBb.out _), Lib.hid (HMr.out.set b (i * 6) _)⟩
        · have hil' : decide ((i : Int) < (M.length : Nat)) = false := decide_eq_false (by omega)
          obtain ⟨W4, hW4⟩ : ∃ W4, W4 = wr := ⟨_, rfl⟩
          subst hW4
          have HBa0 := HWr
          have zb := cellOf1 (HTV.out W4 HBa0.out).1; have lb := lt_blk1 (HTV.out W4 HBa0.out).1; have HQ8 := Lib.hid (HTV.out W4 HBa0.out).2.2.2.2.2.1
          go_wp2_with (first
            | ((with_reducible refine HQ8.out.mono ?_); rintro e w11 ⟨A7, c7, A8, c8, rfl, HTwa1⟩; have hsa1 := HTwa1.out.below; have hza1 := hsa1.size; have HBa1 : Hid (Below w3.heap.size w3 w11) := Lib.hid (HBa0.out.trans (hsa1.mono HBa0.out.size)); have HOga1 := Lib.hid HTwa1.out.a; have HOha1 := Lib.hid HTwa1.out.b; clear zb lb; have zb := cellOf1 (HTV.out w11 HBa1.out).1; have lb := lt_blk1 (HTV.out w11 HBa1.out).1; have HQ9 := Lib.hid (HTV.out w11 HBa1.out).2.2.2.2.2.2.1; clear hsa1)
            | ((with_reducible refine HQ9.out.mono ?_); rintro e w12 ⟨A9, c9, A10, c10, rfl, HTwa2⟩; have hsa2 := HTwa2.out.below; have hza2 := hsa2.size; have HOga2 := Lib.hid (HOga1.out.of hsa2); have HOha2 := Lib.hid (HOha1.out.of hsa2); have HBa2 : Hid (Below w3.heap.size w3 w12) := Lib.hid (HBa1.out.trans (hsa2.mono HBa1.out.size)); have HOia2 := Lib.hid HTwa2.out.a; have HOja2 := Lib.hid HTwa2.out.b; clear zb lb; have HQ10 := Lib.hid (same_acB w12.heap.size w12.heap.size A7 A9 T1.length c7 c9 T1 w12 rfl (HOga2.out.pw.rw') (HOia2.out.pw.rw') (by have := HT1.out; omega)); clear hsa2)
            | ((with_reducible refine HQ10.out.mono ?_); rintro e w13 ⟨rfl, hsa3⟩; have hza3 := hsa3.size; have HOga3 := Lib.hid (HOga2.out.of hsa3); have HOha3 := Lib.hid (HOha2.out.of hsa3); have HOia3 := Lib.hid (HOia2.out.of hsa3); have HOja3 := Lib.hid (HOja2.out.of hsa3); have HBa3 : Hid (Below w3.heap.size w3 w13) := Lib.hid (HBa2.out.trans (hsa3.mono HBa2.out.size)); have HQ11 := Lib.hid (same_acB w13.heap.size w13.heap.size A8 A10 T2.length c8 c10 T2 w13 rfl (HOha3.out.pw.rw') (HOja3.out.pw.rw') (by have := HT2.out; omega)); clear hsa3)
            | ((with_reducible refine HQ11.out.mono ?_); rintro e w14 ⟨rfl, hsa4⟩; have hza4 := hsa4.size; have HOga4 := Lib.hid (HOga3.out.of hsa4); have HOha4 := Lib.hid (HOha3.out.of hsa4); have HOia4 := Lib.hid (HOia3.out.of hsa4); have HOja4 := Lib.hid (HOja3.out.of hsa4); have HBa4 : Hid (Below w3.heap.size w3 w14) := Lib.hid (HBa3.out.trans (hsa4.mono HBa3.out.size)); clear hsa4))
          have HMw2 := Lib.hid (HOga4.out.mono (base' := w3.heap.size) (HBa0.out.size)).mw
          have HB7 := HBa4
          go_loopg [24] T1.length (fun gh s24 wr => ∃ (i : Nat), i ≤ T1.length ∧ gh = T1.length - i ∧ s24 = .int .i64 i ∧ Hid (Below w3.heap.size w3 wr) ∧ Hid (MW wr w3.heap.size A7 (T1.length * 6)))
          case atStart => exact ⟨0, by omega, rfl, rfl, HB7, HMw2⟩
          case round =>
            obtain ⟨i, hi, rfl, rfl, HWr, HMr⟩ := hrel
            by_cases hil : i < T1.length
            · obtain ⟨b, hA, hb0, hb1, ⟨v, hv⟩, hfz⟩ := HMr.out.at' (i := i * 6) (by omega)
              subst hA
              have hil' : (i : Int) < T1.length := by omega
              have hm60 := HT1.out
              have HBb := Lib.hid hb0
              clear hb0
              go_wp2
              go_roundg (T1.length - (i + 1))
              case measure => omega
              case rel => exact ⟨i + 1, by omega, rfl, by go_num, Lib.hid (HWr.out.setCell (p := ⟨b, i * 6, none⟩) HBb.out _), Lib.hid (HMr.out.set b (i * 6) _)⟩
            · have hil' : decide ((i : Int) < (T1.length : Nat)) = false := decide_eq_false (by omega)
              obtain ⟨W5, hW5⟩ : ∃ W5, W5 = wr := ⟨_, rfl⟩
              subst hW5
              have HBb0 := HWr
              have zb := cellOf1 (HTV.out W5 HBb0.out).1; have lb := lt_blk1 (HTV.out W5 HBb0.out).1; have HQ12 := Lib.hid (HTV.out W5 HBb0.out).2.2.2.2.2.2.2.1
              go_wp2_with (first
                | ((with_reducible refine HQ12.out.mono ?_); rintro e w15 ⟨A11, c11, A12, c12, rfl, HTwb1⟩; have hsb1 := HTwb1.out.below; have hzb1 := hsb1.size; have HBb1 : Hid (Below w3.heap.size w3 w15) := Lib.hid (HBb0.out.trans (hsb1.mono HBb0.out.size)); have HOkb1 := Lib.hid HTwb1.out.a; have HOlb1 := Lib.hid HTwb1.out.b; clear zb lb; have zb := cellOf1 (HTV.out w15 HBb1.out).1; have lb := lt_blk1 (HTV.out w15 HBb1.out).1; have HQ13 := Lib.hid (HTV.out w15 HBb1.out).2.2.2.2.2.2.2.2.1; clear hsb1)
                | ((with_reducible refine HQ13.out.mono ?_); rintro e w16 ⟨A13, c13, A14, c14, rfl, HTwb2⟩; have hsb2 := HTwb2.out.below; have hzb2 := hsb2.size; have HOkb2 := Lib.hid (HOkb1.out.of hsb2); have HOlb2 := Lib.hid (HOlb1.out.of hsb2); have HBb2 : Hid (Below w3.heap.size w3 w16) := Lib.hid (HBb1.out.trans (hsb2.mono HBb1.out.size)); have HOmb2 := Lib.hid HTwb2.out.a; have HOnb2 := Lib.hid HTwb2.out.b; clear zb lb; clear hsb2))
              have HCB := Lib.hid (HTV.out w16 HBb2.out).1
              have HC1 := Lib.hid (fun U (hU : Below w16.heap.size w16 U) => same_acB w16.heap.size w16.heap.size A11 A13 D1.length c11 c13 D1 U rfl (HOkb2.out.pw.rw'.below hU (Nat.le_refl _)) (HOmb2.out.pw.rw'.below hU (Nat.le_refl _)) (by have := HD1.out; omega))
              have HC2 := Lib.hid (fun U (hU : Below w16.heap.size w16 U) => same_acB w16.heap.size w16.heap.size A12 A14 D2.length c12 c14 D2 U rfl (HOlb2.out.pw.rw'.below hU (Nat.le_refl _)) (HOnb2.out.pw.rw'.below hU (Nat.le_refl _)) (by have := HD2.out; omega))
              have HC3 := Lib.hid (fun U (hU : Below w16.heap.size w16 U) => (HTV.out U (HBb2.out.trans (hU.mono HBb2.out.size))).2.2.2.2.2.2.2.2.2.1)
              have HC4 := Lib.hid (fun U (hU : Below w16.heap.size w16 U) => (HTV.out U (HBb2.out.trans (hU.mono HBb2.out.size))).2.2.2.2.2.2.2.2.2.2.1)
              have HC5 := Lib.hid (fun U (hU : Below w16.heap.size w16 U) => (HTV.out U (HBb2.out.trans (hU.mono HBb2.out.size))).2.2.2.2.2.2.2.2.2.2.2)
              refine wp_region_noPanic ?_
              refine wp_region_held_drew (S := fun w' => Below w16.heap.size w16 w') (by kernel_rfl) ((Below.refl _ _).drew) (fun hS0 => ?_)
              generalize w16.drew = x0 at hS0 ⊢
              refine wpAnyH_take (i := 0) (oi := ⟨some 146, Op.move (Operand.tmp 11), 4, _, _, none⟩) (v := ?vz0) rfl (by kernel_rfl) (by kernel_rfl) (by kernel_rfl) (fun _ _ _ h => h) (Or.inl ⟨by rfl, ?hz0⟩) hS0 ?rz0
              case hz0 => (intro wz hSw; go_simp <;> with_reducible rfl)
              (try simp only [Act.put, List.setIfInBounds_toArray, List.set_cons_zero, List.set_cons_succ])
              refine wpAnyH_take (i := 1) (oi := ⟨some 147, Op.move (Operand.tmp 146), 4, _, _, none⟩) (v := ?vz1) rfl (by kernel_rfl) (by kernel_rfl) (by kernel_rfl) (fun _ _ _ h => h) (Or.inl ⟨by rfl, ?hz1⟩) hS0 ?rz1
              case hz1 => (intro wz hSw; go_simp <;> with_reducible rfl)
              (try simp only [Act.put, List.setIfInBounds_toArray, List.set_cons_zero, List.set_cons_succ])
              refine wpAnyH_take (i := 2) (oi := ⟨some 148, Op.move (Operand.tmp 22), 4, _, _, some (1, true)⟩) (v := ?vz2) rfl (by kernel_rfl) (by kernel_rfl) (by kernel_rfl) (fun _ _ _ h => h) (Or.inl ⟨by rfl, ?hz2⟩) hS0 ?rz2
              case hz2 => (intro wz hSw; go_simp <;> with_reducible rfl)
              (try simp only [Act.put, List.setIfInBounds_toArray, List.set_cons_zero, List.set_cons_succ])
              refine wpAnyH_take (i := 3) (oi := ⟨some 149, Op.pick (Operand.tmp 147) (Operand.tmp 148) (Operand.const (Value.bool false)), 4, _, _, none⟩) (v := ?vz3) rfl (by kernel_rfl) (by kernel_rfl) (by kernel_rfl) (fun _ _ _ h => h) (Or.inl ⟨by rfl, ?hz3⟩) hS0 ?rz3
              case hz3 => (intro wz hSw; go_simp <;> with_reducible rfl)
              (try simp only [Act.put, List.setIfInBounds_toArray, List.set_cons_zero, List.set_cons_succ])
              refine wpAnyH_take (i := 4) (oi := ⟨some 150, Op.move (Operand.tmp 149), 4, _, _, none⟩) (v := ?vz4) rfl (by kernel_rfl) (by kernel_rfl) (by kernel_rfl) (fun _ _ _ h => h) (Or.inl ⟨by rfl, ?hz4⟩) hS0 ?rz4
              case hz4 => (intro wz hSw; go_simp <;> with_reducible rfl)
              (try simp only [Act.put, List.setIfInBounds_toArray, List.set_cons_zero, List.set_cons_succ])
              refine wpAnyH_take (i := 5) (oi := ⟨some 151, Op.move (Operand.tmp 18), 32, _, _, some (4, true)⟩) (v := ?vz5) rfl (by kernel_rfl) (by kernel_rfl) (by kernel_rfl) (fun _ _ _ h => h) (Or.inl ⟨by rfl, ?hz5⟩) hS0 ?rz5
              case hz5 => (intro wz hSw; go_simp <;> with_reducible rfl)
              (try simp only [Act.put, List.setIfInBounds_toArray, List.set_cons_zero, List.set_cons_succ])
              refine wpAnyH_take (i := 6) (oi := ⟨some 152, Op.move (Operand.tmp 20), 32, _, _, some (4, true)⟩) (v := ?vz6) rfl (by kernel_rfl) (by kernel_rfl) (by kernel_rfl) (fun _ _ _ h => h) (Or.inl ⟨by rfl, ?hz6⟩) hS0 ?rz6
              case hz6 => (intro wz hSw; go_simp <;> with_reducible rfl)
              (try simp only [Act.put, List.setIfInBounds_toArray, List.set_cons_zero, List.set_cons_succ])
              refine wpAnyH_ready (rs := [7]) (by kernel_rfl) (by simp) ?_
              refine AllReadyH.cons (o := ⟨some 153, Op.call { callee := Callee.value (Operand.func 13), args := #[Operand.tmp 151, Operand.tmp 152], argTypes := #[32, 32] }, 4, _, _, some (4, true)⟩) rfl (fun K hK => ?_) AllReadyH.nil
              go_simp
              ((with_reducible refine (HC1.out _ hS0).mono ?_); rintro e x1 ⟨rfl, hb1⟩; have hs1 : Below w16.heap.size w16 x1 := hS0.trans (Below.mono hb1 hS0.size))
              refine hK.out _ _ hs1 (fun _ => ?_)
              clear hK K
              (try simp only [Act.put, List.setIfInBounds_toArray, List.set_cons_zero, List.set_cons_succ])
              refine wpAnyH_take (i := 8) (oi := ⟨some 154, Op.pick (Operand.tmp 150) (Operand.tmp 153) (Operand.const (Value.bool false)), 4, _, _, none⟩) (v := ?vz8) rfl (by kernel_rfl) (by kernel_rfl) (by kernel_rfl) (fun _ _ _ h => h) (Or.inl ⟨by rfl, ?hz8⟩) hs1 ?rz8
              case hz8 => (intro wz hSw; go_simp <;> with_reducible rfl)
              (try simp only [Act.put, List.setIfInBounds_toArray, List.set_cons_zero, List.set_cons_succ])
              refine wpAnyH_take (i := 9) (oi := ⟨some 155, Op.move (Operand.tmp 154), 4, _, _, none⟩) (v := ?vz9) rfl (by kernel_rfl) (by kernel_rfl) (by kernel_rfl) (fun _ _ _ h => h) (Or.inl ⟨by rfl, ?hz9⟩) hs1 ?rz9
              case hz9 => (intro wz hSw; go_simp <;> with_reducible rfl)
              (try simp only [Act.put, List.setIfInBounds_toArray, List.set_cons_zero, List.set_cons_succ])
              refine wpAnyH_take (i := 10) (oi := ⟨some 156, Op.move (Operand.tmp 19), 32, _, _, some (9, true)⟩) (v := ?vz10) rfl (by kernel_rfl) (by kernel_rfl) (by kernel_rfl) (fun _ _ _ h => h) (Or.inl ⟨by rfl, ?hz10⟩) hs1 ?rz10
              case hz10 => (intro wz hSw; go_simp <;> with_reducible rfl)
              (try simp only [Act.put, List.setIfInBounds_toArray, List.set_cons_zero, List.set_cons_succ])
              refine wpAnyH_take (i := 11) (oi := ⟨some 157, Op.move (Operand.tmp 21), 32, _, _, some (9, true)⟩) (v := ?vz11) rfl (by kernel_rfl) (by kernel_rfl) (by kernel_rfl) (fun _ _ _ h => h) (Or.inl ⟨by rfl, ?hz11⟩) hs1 ?rz11
              case hz11 => (intro wz hSw; go_simp <;> with_reducible rfl)
              (try simp only [Act.put, List.setIfInBounds_toArray, List.set_cons_zero, List.set_cons_succ])
              refine wpAnyH_ready (rs := [12]) (by kernel_rfl) (by simp) ?_
              refine AllReadyH.cons (o := ⟨some 158, Op.call { callee := Callee.value (Operand.func 13), args := #[Operand.tmp 156, Operand.tmp 157], argTypes := #[32, 32] }, 4, _, _, some (9, true)⟩) rfl (fun K hK => ?_) AllReadyH.nil
              go_simp
              ((with_reducible refine (HC2.out _ hs1).mono ?_); rintro e x2 ⟨rfl, hb2⟩; have hs2 : Below w16.heap.size w16 x2 := hs1.trans (Below.mono hb2 hs1.size))
              refine hK.out _ _ hs2 (fun _ => ?_)
              clear hK K
              (try simp only [Act.put, List.setIfInBounds_toArray, List.set_cons_zero, List.set_cons_succ])
              refine wpAnyH_take (i := 13) (oi := ⟨some 159, Op.pick (Operand.tmp 155) (Operand.tmp 158) (Operand.const (Value.bool false)), 4, _, _, none⟩) (v := ?vz13) rfl (by kernel_rfl) (by kernel_rfl) (by kernel_rfl) (fun _ _ _ h => h) (Or.inl ⟨by rfl, ?hz13⟩) hs2 ?rz13
              case hz13 => (intro wz hSw; go_simp <;> with_reducible rfl)
              (try simp only [Act.put, List.setIfInBounds_toArray, List.set_cons_zero, List.set_cons_succ])
              refine wpAnyH_take (i := 14) (oi := ⟨some 160, Op.move (Operand.tmp 159), 4, _, _, none⟩) (v := ?vz14) rfl (by kernel_rfl) (by kernel_rfl) (by kernel_rfl) (fun _ _ _ h => h) (Or.inl ⟨by rfl, ?hz14⟩) hs2 ?rz14
              case hz14 => (intro wz hSw; go_simp <;> with_reducible rfl)
              (try simp only [Act.put, List.setIfInBounds_toArray, List.set_cons_zero, List.set_cons_succ])
              refine wpAnyH_take (i := 15) (oi := ⟨some 161, Op.load 31 (Operand.tmp 5), 31, _, _, some (14, true)⟩) (v := ?vz15) rfl (by kernel_rfl) (by kernel_rfl) (by kernel_rfl) (fun _ _ _ h => h) (Or.inl ⟨by rfl, ?hz15⟩) hs2 ?rz15
              case hz15 => (intro wz hSw; have u9 := cellOf1 (hkeep1 hSw (lt_blk1 HCB.out) HCB.out); go_simp <;> with_reducible rfl)
              (try simp only [Act.put, List.setIfInBounds_toArray, List.set_cons_zero, List.set_cons_succ])
              refine wpAnyH_take (i := 16) (oi := ⟨some 162, Op.move (Operand.tmp 13), 32, _, _, some (14, true)⟩) (v := ?vz16) rfl (by kernel_rfl) (by kernel_rfl) (by kernel_rfl) (fun _ _ _ h => h) (Or.inl ⟨by rfl, ?hz16⟩) hs2 ?rz16
              case hz16 => (intro wz hSw; go_simp <;> with_reducible rfl)
              (try simp only [Act.put, List.setIfInBounds_toArray, List.set_cons_zero, List.set_cons_succ])
              refine wpAnyH_take (i := 18) (oi := ⟨some 164, Op.load 31 (Operand.tmp 5), 31, _, _, some (14, true)⟩) (v := ?vz18) rfl (by kernel_rfl) (by kernel_rfl) (by kernel_rfl) (fun _ _ _ h => h) (Or.inl ⟨by rfl, ?hz18⟩) hs2 ?rz18
              case hz18 => (intro wz hSw; have u9 := cellOf1 (hkeep1 hSw (lt_blk1 HCB.out) HCB.out); go_simp <;> with_reducible rfl)
              (try simp only [Act.put, List.setIfInBounds_toArray, List.set_cons_zero, List.set_cons_succ])
              refine wpAnyH_take (i := 19) (oi := ⟨some 165, Op.move (Operand.tmp 1), 32, _, _, some (14, true)⟩) (v := ?vz19) rfl (by kernel_rfl) (by kernel_rfl) (by kernel_rfl) (fun _ _ _ h => h) (Or.inl ⟨by rfl, ?hz19⟩) hs2 ?rz19
              case hz19 => (intro wz hSw; go_simp <;> with_reducible rfl)
              (try simp only [Act.put, List.setIfInBounds_toArray, List.set_cons_zero, List.set_cons_succ])
              refine wpAnyH_ready (rs := [17]) (by kernel_rfl) (by simp) ?_
              refine AllReadyH.cons (o := ⟨some 163, Op.call { callee := Callee.value (Operand.func 18), args := #[Operand.tmp 161, Operand.tmp 162], argTypes := #[31, 32] }, 4, _, _, some (14, true)⟩) rfl (fun K hK => ?_) AllReadyH.nil
              go_simp
              ((with_reducible refine (HC3.out _ hs2).mono ?_); rintro e x3 ⟨rfl, hb3⟩; have hs3 : Below w16.heap.size w16 x3 := hs2.trans (Below.mono hb3 hs2.size))
              refine hK.out _ _ hs3 (fun _ => ?_)
              clear hK K
              (try simp only [Act.put, List.setIfInBounds_toArray, List.set_cons_zero, List.set_cons_succ])
              refine wpAnyH_ready (rs := [20]) (by kernel_rfl) (by simp) ?_
              refine AllReadyH.cons (o := ⟨some 166, Op.call { callee := Callee.value (Operand.func 19), args := #[Operand.tmp 164, Operand.tmp 165], argTypes := #[31, 32] }, 4, _, _, some (14, true)⟩) rfl (fun K hK => ?_) AllReadyH.nil
              go_simp
              ((with_reducible refine (HC4.out _ hs3).mono ?_); rintro e x4 ⟨rfl, hb4⟩; have hs4 : Below w16.heap.size w16 x4 := hs3.trans (Below.mono hb4 hs3.size))
              refine hK.out _ _ hs4 (fun _ => ?_)
              clear hK K
              (try simp only [Act.put, List.setIfInBounds_toArray, List.set_cons_zero, List.set_cons_succ])
              refine wpAnyH_take (i := 21) (oi := ⟨some 167, Op.binOp BinOp.eql 4 (Operand.tmp 163) (Operand.tmp 166) 4, 4, _, _, some (14, true)⟩) (v := ?vz21) rfl (by kernel_rfl) (by kernel_rfl) (by kernel_rfl) (fun _ _ _ h => h) (Or.inl ⟨by rfl, ?hz21⟩) hs4 ?rz21
              case hz21 => (intro wz hSw; go_simp <;> with_reducible rfl)
              (try simp only [Act.put, List.setIfInBounds_toArray, List.set_cons_zero, List.set_cons_succ])
              refine wpAnyH_take (i := 22) (oi := ⟨some 168, Op.pick (Operand.tmp 160) (Operand.tmp 167) (Operand.const (Value.bool false)), 4, _, _, none⟩) (v := ?vz22) rfl (by kernel_rfl) (by kernel_rfl) (by kernel_rfl) (fun _ _ _ h => h) (Or.inl ⟨by rfl, ?hz22⟩) hs4 ?rz22
              case hz22 => (intro wz hSw; go_simp <;> with_reducible rfl)
              (try simp only [Act.put, List.setIfInBounds_toArray, List.set_cons_zero, List.set_cons_succ])
              refine wpAnyH_take (i := 23) (oi := ⟨some 169, Op.move (Operand.tmp 168), 4, _, _, none⟩) (v := ?vz23) rfl (by kernel_rfl) (by kernel_rfl) (by kernel_rfl) (fun _ _ _ h => h) (Or.inl ⟨by rfl, ?hz23⟩) hs4 ?rz23
              case hz23 => (intro wz hSw; go_simp <;> with_reducible rfl)
              (try simp only [Act.put, List.setIfInBounds_toArray, List.set_cons_zero, List.set_cons_succ])
              refine wpAnyH_take (i := 24) (oi := ⟨some 170, Op.move (Operand.tmp 13), 32, _, _, some (23, true)⟩) (v := ?vz24) rfl (by kernel_rfl) (by kernel_rfl) (by kernel_rfl) (fun _ _ _ h => h) (Or.inl ⟨by rfl, ?hz24⟩) hs4 ?rz24
              case hz24 => (intro wz hSw; go_simp <;> with_reducible rfl)
              (try simp only [Act.put, List.setIfInBounds_toArray, List.set_cons_zero, List.set_cons_succ])
              refine wpAnyH_take (i := 25) (oi := ⟨some 171, Op.move (Operand.tmp 1), 32, _, _, some (23, true)⟩) (v := ?vz25) rfl (by kernel_rfl) (by kernel_rfl) (by kernel_rfl) (fun _ _ _ h => h) (Or.inl ⟨by rfl, ?hz25⟩) hs4 ?rz25
              case hz25 => (intro wz hSw; go_simp <;> with_reducible rfl)
              (try simp only [Act.put, List.setIfInBounds_toArray, List.set_cons_zero, List.set_cons_succ])
              refine wpAnyH_ready (rs := [26]) (by kernel_rfl) (by simp) ?_
              refine AllReadyH.cons (o := ⟨some 172, Op.call { callee := Callee.value (Operand.func 13), args := #[Operand.tmp 170, Operand.tmp 171], argTypes := #[32, 32] }, 4, _, _, some (23, true)⟩) rfl (fun K hK => ?_) AllReadyH.nil
              go_simp
              ((with_reducible refine (HC5.out _ hs4).mono ?_); rintro e x5 ⟨rfl, hb5⟩; have hs5 : Below w16.heap.size w16 x5 := hs4.trans (Below.mono hb5 hs4.size))
              refine hK.out _ _ hs5 (fun _ => ?_)
              clear hK K
              (try simp only [Act.put, List.setIfInBounds_toArray, List.set_cons_zero, List.set_cons_succ])
              refine wpAnyH_take (i := 27) (oi := ⟨some 173, Op.pick (Operand.tmp 169) (Operand.tmp 172) (Operand.const (Value.bool false)), 4, _, _, none⟩) (v := ?vz27) rfl (by kernel_rfl) (by kernel_rfl) (by kernel_rfl) (fun _ _ _ h => h) (Or.inl ⟨by rfl, ?hz27⟩) hs5 ?rz27
              case hz27 => (intro wz hSw; go_simp <;> with_reducible rfl)
              (try simp only [Act.put, List.setIfInBounds_toArray, List.set_cons_zero, List.set_cons_succ])
              refine wpAnyH_take (i := 28) (oi := ⟨some 10, Op.assign (Operand.tmp 173), 4, _, _, none⟩) (v := ?vz28) rfl (by kernel_rfl) (by kernel_rfl) (by kernel_rfl) (fun _ _ _ h => h) (Or.inl ⟨by rfl, ?hz28⟩) hs5 ?rz28
              case hz28 => (intro wz hSw; go_simp <;> with_reducible rfl)
              (try simp only [Act.put, List.setIfInBounds_toArray, List.set_cons_zero, List.set_cons_succ])
              refine wpAnyH_done (by kernel_rfl) ?_ _
              refine NoPanic.normal ?_
              have HS9 := Lib.hid (hs5)
              go_wp2
              go_ret
              exact ⟨rfl, HV3.out.trans ((HBb2.out.trans (HS9.out.mono HBb2.out.size)).mono HV3.out.size)⟩


set_option maxRecDepth 100000 in
theorem lifted (os : Os) (started : os.Started) (H : Type) (enc : TypeId × Value → H) :
    ReturnsInHanded {} Try.checked os 3 .any (Rows.auraTurnsSpec.pre6 enc Try.prog Try.f3 Rows.auraTurnsRow.domain false) (Rows.auraTurnsSpec.post enc Try.prog Try.f3 false true false false) := by
  refine returnsInHanded_of_change (C := Try.checked) own started (by kernel_rfl) Try.func3
    (ChangeSpec.witness6 (enc := enc) (C := Try.checked) false ⟨#[], #[.agg #[.slice none 0 0, .slice none 0 0, .slice none 0 0, .int .i64 0, .int .i64 0, .slice none 0 0, .int .i64 0, .int .i64 0, .int .i64 0, .int .i64 0], .slice none 0 0, .int .i64 0, .int .i64 0, .int .i64 0], []⟩ 8 (by kernel_rfl) (by kernel_rfl) (by kernel_rfl) (by kernel_rfl)) ?_
  intro W base args ds gs before hval0 hW hcnd _
  have hval : ∀ (j : Nat) t v, Try.f3.params[j]? = some t → args[j]? = some v → Value.okWide Try.prog W .any base t v := hval0
  have hW' := hW
  obtain ⟨p, q, hA0, hV, rfl, hfz, hnd⟩ := hW
  have hA : DataW.TrodAll enc Try.prog W 0 (fun _ => true) true Try.f3.params.toList args.toList ds p := hA0
  rw [Try.params3] at hA hval
  obtain ⟨v0, vs0, d0, ds0, p0, q0, hargs, rfl, rfl, h0, r0⟩ := trodAll_cons hA
  obtain ⟨v1, vs1, d1, ds1, p1, q1, rfl, rfl, rfl, h1, r1⟩ := trodAll_cons r0
  obtain ⟨v2, vs2, d2, ds2, p2, q2, rfl, rfl, rfl, h2, r2⟩ := trodAll_cons r1
  obtain ⟨v3, vs3, d3, ds3, p3, q3, rfl, rfl, rfl, h3, r3⟩ := trodAll_cons r2
  obtain ⟨v4, vs4, d4, ds4, p4, q4, rfl, rfl, rfl, h4, r4⟩ := trodAll_cons r3
  obtain ⟨rfl, rfl, rfl⟩ := trodAll_nil r4
  obtain rfl : args = #[v0, v1, v2, v3, v4] := by cases args; simp_all
  obtain ⟨rfl, rfl⟩ := trodVars_none hV
  clear hA0 hval0
  have hlt0 : ∀ x ∈ p0, x.block < W.heap.size := fun x hx => hW'.lt x (by simp [hx])
  have hk0 := h0
  obtain ⟨c0, rfl, hr0, hf0⟩ := Open.viewC (hval 0 31 v0 rfl rfl) h0
  have hlt1 : ∀ x ∈ p1, x.block < W.heap.size := fun x hx => hW'.lt x (by simp [hx])
  have hk1 := h1
  obtain ⟨A1, c1, l1, rfl, hr1, hf1⟩ := Kop.viewAc (hval 1 32 v1 rfl rfl) h1
  obtain ⟨a2, rfl, rfl, rfl, w2⟩ := open_int Try.underlying3 (hval 2 3 v2 rfl rfl) h2
  obtain ⟨a3, rfl, rfl, rfl, w3⟩ := open_int Try.underlying3 (hval 3 3 v3 rfl rfl) h3
  obtain ⟨a4, rfl, rfl, rfl, w4⟩ := open_int Try.underlying3 (hval 4 3 v4 rfl rfl) h4
  simp only [List.append_nil] at hW'
  refine (walk W c0 hr0 hf0 A1 c1 l1 hr1 hf1 a2 (Kop.fits_of w2) a3 (Kop.fits_of w3) a4 (Kop.fits_of w4)).mono fun e W' ⟨he, hg⟩ => ?_
  subst he
  exact ⟨_, rfl, _, _, _, [], _, [], hW', (trodAll_cons_mk (shut_bool Try.underlying4 _) trodAll_mk0), (trodAll_cons_mk (Below.trod Kop.laidOut (by kernel_rfl) (of_decide_eq_true (by kernel_rfl)) hk0 hg hlt0) (trodAll_cons_mk (Below.trod Kop.laidOut (by kernel_rfl) (of_decide_eq_true (by kernel_rfl)) hk1 hg hlt1) (trodAll_cons_mk (shut_int Try.underlying3 w2) (trodAll_cons_mk (shut_int Try.underlying3 w3) (trodAll_cons_mk (shut_int Try.underlying3 w4) trodAll_mk0))))), rfl, hg.frame _, fun h => by cases h⟩

theorem over : Rows.auraTurnsRow.holds Try.pinned (OpenSpec.ofChange Rows.auraTurnsSpec) :=
  OpenClaim.holds_of_wide 3 Try.f3 rfl rfl rfl rfl rfl rfl rfl ⟨rfl, rfl, rfl, rfl, rfl⟩ rfl rfl rfl rfl rfl (by kernel_rfl) Try.func3 (by kernel_rfl)
    (of_decide_eq_true (by kernel_rfl)) (by unfold Func.isWrapper; first | (rw [if_pos (by decide +kernel)]; kernel_rfl) | (rw [if_neg (by decide +kernel)]; exact ⟨rfl, rfl⟩))
    (fun os started H enc _ => lifted os started H enc)

/-- The given statement. -/
theorem proved : Rows.AuraTurnsSaid :=
  over
#print axioms proved
end Go.Proofs.Ytijobbdgiaiocaa.auraTurns
