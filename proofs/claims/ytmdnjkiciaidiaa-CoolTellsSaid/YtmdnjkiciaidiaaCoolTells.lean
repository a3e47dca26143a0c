/-
  The law of telling: what may be used, when, and what becomes of a row, is what the document says; what was handed in stays as it was, whatever becomes of what was answered.
-/
import Derived.Test.YtmdnjkiciaidiaaRrw
import Derived.Test.YtmdnjkiciaidiaaOpn
import Derived.WalkKit
import Derived.ProofKit
import Derived.OpenShut
namespace Go.Proofs.Ytmdnjkiciaidiaa.coolTells
open Go.ChangeShapes Go.WideShapes Go.ChangeAt Go.RowKit Con
set_option linter.unusedVariables false

theorem own : ownKnob Try.prog.godebug = none := by kernel_rfl

theorem bl2 {a b c : World} (h : Below a.heap.size a b) (k : Below b.heap.size b c) : Below a.heap.size a c := h.trans (k.mono h.size)
theorem km_set1 {w : World} {N : Nat} {A : Option Addr} {l : List Co} (h : KMc w N A l) {b o : Nat} (hb : b < N) (u : Value) : KMc (w.setCell ⟨b, o, none⟩ u) N A l :=
  ⟨h.out.set1 (a := ⟨b, o, none⟩) hb u, fun x hx => (h.inn x hx).set b o u, h.ne⟩
set_option maxRecDepth 100000 in
set_option maxHeartbeats 8000000 in
theorem walk (w : World) (A : Option Addr) (cp : Nat) (l : List Co) (hcp : l.length ≤ cp) (hr : KRc w w.heap.size A l) (hf : ∀ s ∈ l, s.bk.length ≤ s.bc ∧ FCo s) (a : Abl) (ha : Opn.FAbl a) (now : Int) (hf2 : Fits now) :
    Calls Try.prog 3 #[.slice A l.length cp, ablv a, .int .i64 now] w fun e w' => e = .returned (.bool true) ∧ Below w.heap.size w w' := by
  have HX := Lib.hid (below_box w (oAbl a))
  have HSmall := Lib.hid (small_any (w.alloc (oAbl a)))
  have HZ0 : Hid (∀ wz, Below (w.alloc (oAbl a)).heap.size (w.alloc (oAbl a)) wz → w.heap.size < wz.heap.size ∧ ∀ o, wz.cell? ⟨w.heap.size, o, none⟩ = (#[.int .i64 a.id, .int .i64 a.cast, .int .i64 a.cool, .int .i64 a.charges, .int .i64 a.range, .int .i64 a.cost, .bool a.sight, .slice a.ea a.en a.ec] : Array Value)[o]?) := Lib.hid (fun wz h => ⟨(box_abl h).1, cellsAbl (box_abl h).2.1⟩)
  have HR := Lib.hid hr; have HF := Lib.hid hf; have HCH := Lib.hid ha.2.2; have HCO := Lib.hid ha.2.1; have HNO := Lib.hid hf2; have HCP := Lib.hid hcp
  obtain ⟨fb, hfb⟩ := bex (FwP l)
  have HFB := Lib.hid hfb
  have HFW : Hid (∀ V, Below w.heap.size w V → Calls Try.prog 8 #[.slice A l.length cp] V fun e w' => e = .returned (.bool fb) ∧ Below V.heap.size V w') := Lib.hid (fun V hV => few_iff rfl (hr.below hV (Nat.le_refl _)) hV.size fb hfb)
  clear hr hf hf2 ha hcp hfb
  have HB0 := Lib.hid (Below.refl (w.alloc (oAbl a)).heap.size (w.alloc (oAbl a)))
  have zb := (HZ0.out _ HB0.out).2
  have lb := (HZ0.out _ HB0.out).1
  go_enter Try.func3, Try.ntmps3
  cases fb with
  | false =>
    go_wp2_with (first
      | ((with_reducible refine HSmall.out.mono ?_); rintro e w1 ⟨rfl, hB⟩; have HS1 := Lib.hid hB; have HB1 := Lib.hid (bl2 HB0.out HS1.out); have HW1 := Lib.hid (bl2 HX.out HB1.out); clear zb lb; have zb := (HZ0.out w1 HB1.out).2; have lb := (HZ0.out w1 HB1.out).1; clear hB; have HFWN := Lib.hid (HFW.out w1 HW1.out))
      | ((with_reducible refine HFWN.out.mono ?_); rintro e w2 ⟨rfl, hB⟩; have HS2 := Lib.hid hB; have HB2 := Lib.hid (bl2 HB1.out HS2.out); have HW2 := Lib.hid (bl2 HX.out HB2.out); clear zb lb; have zb := (HZ0.out w2 HB2.out).2; have lb := (HZ0.out w2 HB2.out).1; clear hB))
    go_ret
    exact ⟨rfl, HW2.out⟩
  | true =>
    by_cases hen : 100 < a.en
    · have hen' : decide ((100 : Int) < (a.en : Int)) = true := decide_eq_true (by omega)
      go_wp2_with (first
        | ((with_reducible refine HSmall.out.mono ?_); rintro e w1 ⟨rfl, hB⟩; have HS1 := Lib.hid hB; have HB1 := Lib.hid (bl2 HB0.out HS1.out); have HW1 := Lib.hid (bl2 HX.out HB1.out); clear zb lb; have zb := (HZ0.out w1 HB1.out).2; have lb := (HZ0.out w1 HB1.out).1; clear hB; have HFWN := Lib.hid (HFW.out w1 HW1.out))
        | ((with_reducible refine HFWN.out.mono ?_); rintro e w2 ⟨rfl, hB⟩; have HS2 := Lib.hid hB; have HB2 := Lib.hid (bl2 HB1.out HS2.out); have HW2 := Lib.hid (bl2 HX.out HB2.out); clear zb lb; have zb := (HZ0.out w2 HB2.out).2; have lb := (HZ0.out w2 HB2.out).1; clear hB))
      go_ret
      exact ⟨rfl, HW2.out⟩
    have hen' : decide ((100 : Int) < (a.en : Int)) = false := decide_eq_false (by omega)
    have hfw : FwP l := HFB.out.1 (by first | rfl | trivial)
    have HRR : Hid (RR w A l (l.map Co.pl)) := Lib.hid ⟨HR.out, rfl, fun x hx => (HF.out x hx).1, fun x hx => Nat.le_trans (hfw.2 x hx) (by omega), by have := hfw.1; omega⟩
    have HFC : Hid (∀ x ∈ l, FCo x) := Lib.hid (fun x hx => (HF.out x hx).2)
    have HFP : Hid (∀ x ∈ l.map Co.pl, ∀ y ∈ x.2, Fits y) := Lib.hid (fun x hx => by obtain ⟨z, hz, rfl⟩ := List.mem_map.1 hx; exact (HF.out z hz).2.2)
    have HSH0 : Hid (∀ x ∈ l.map Co.pl, x.2.length ≤ 1000) := Lib.hid (fun x hx => by obtain ⟨y, hy, rfl⟩ := List.mem_map.1 hx; exact Nat.le_trans (hfw.2 y hy) (by omega))
    have HL60 : Hid ((l.map Co.pl).length ≤ 60) := Lib.hid (by rw [List.length_map]; exact hfw.1)
    have hl60 : (l.length : Int) ≤ 60 := by have := hfw.1; omega
    clear hfw hen
    obtain ⟨ub, hub⟩ := bex (usB (l.map Co.pl) a.id a.charges now)
    have HUB := Lib.hid hub
    obtain ⟨PU, hPU⟩ : ∃ PU, usA ub (l.map Co.pl) a now = PU := ⟨_, rfl⟩
    have HPU := Lib.hid hPU
    have HPS : Hid (∀ x ∈ PU, x.2.length ≤ 1000) := Lib.hid (by rw [← hPU]; exact us_short (by omega) hub HSH0.out)
    have HPL : Hid ((PU.length : Int) ≤ 1000) := Lib.hid (by have := us_len ub (l.map Co.pl) a now; rw [hPU] at this; have := HL60.out; omega)
    have HCS : Hid (∀ x ∈ clI (l.map Co.pl) now, x.2.length ≤ 1000) := Lib.hid (cl_short now HSH0.out)
    have HCLn : Hid (((clI (l.map Co.pl) now).length : Int) ≤ 1000) := Lib.hid (by have := cl_len (l.map Co.pl) now; have := HL60.out; omega)
    have HRS : Hid (∀ x ∈ rsI (l.map Co.pl) a.id, x.2.length ≤ 1000) := Lib.hid (rs_short a.id HSH0.out)
    have HRLn : Hid (((rsI (l.map Co.pl) a.id).length : Int) ≤ 1000) := Lib.hid (by have := rs_len (l.map Co.pl) a.id; have := HL60.out; omega)
    clear hub hPU
    go_wp2_with (first
      | ((with_reducible refine HSmall.out.mono ?_); rintro e w1 ⟨rfl, hB⟩; have HS1 := Lib.hid hB; have HB1 := Lib.hid (bl2 HB0.out HS1.out); have HW1 := Lib.hid (bl2 HX.out HB1.out); clear zb lb; have zb := (HZ0.out w1 HB1.out).2; have lb := (HZ0.out w1 HB1.out).1; clear hB; have HFWN := Lib.hid (HFW.out w1 HW1.out))
      | ((with_reducible refine HFWN.out.mono ?_); rintro e w2 ⟨rfl, hB⟩; have HS2 := Lib.hid hB; have HB2 := Lib.hid (bl2 HB1.out HS2.out); have HW2 := Lib.hid (bl2 HX.out HB2.out); clear zb lb; have zb := (HZ0.out w2 HB2.out).2; have lb := (HZ0.out w2 HB2.out).1; clear hB; have HCpN := Lib.hid ((HRR.out.of HW2.out).rcopy (c := cp)))
      | ((with_reducible refine HCpN.out.mono ?_); rintro e w3 ⟨A3, c3, M3, rfl, hM3, hK3, hBo3⟩; have HS3 := Lib.hid hBo3.out; have HB3 := Lib.hid (bl2 HB2.out HS3.out); have HW3 := Lib.hid (bl2 HX.out HB3.out); clear zb lb; have zb := (HZ0.out w3 HB3.out).2; have lb := (HZ0.out w3 HB3.out).1; have HUsN := Lib.hid ((HRR.out.of HW3.out).use (c := cp) HFP.out a now HCH.out HCO.out HNO.out ub HUB.out); rw [HPU.out] at HUsN)
      | ((with_reducible refine HUsN.out.mono ?_); rintro e w4 ⟨A4, c4, M4, rfl, hM4, hK4, hC4, hBo4⟩; have HS4 := Lib.hid hBo4.out; have HB4 := Lib.hid (bl2 HB3.out HS4.out); have HW4 := Lib.hid (bl2 HX.out HB4.out); clear zb lb; have zb := (HZ0.out w4 HB4.out).2; have lb := (HZ0.out w4 HB4.out).1; have HRuN := Lib.hid ((HRR.out.of HW4.out).ruse (c := cp) HFC.out a now HCH.out HCO.out HNO.out ub HUB.out); rw [HPU.out] at HRuN)
      | ((with_reducible refine HRuN.out.mono ?_); rintro e w5 ⟨A5, c5, M5, rfl, hM5, hK5, hBo5⟩; have HS5 := Lib.hid hBo5.out; have HB5 := Lib.hid (bl2 HB4.out HS5.out); have HW5 := Lib.hid (bl2 HX.out HB5.out); clear zb lb; have zb := (HZ0.out w5 HB5.out).2; have lb := (HZ0.out w5 HB5.out).1; have HClN := Lib.hid ((HRR.out.of HW5.out).clean (c := cp) now rfl))
      | ((with_reducible refine HClN.out.mono ?_); rintro e w6 ⟨A6, c6, M6, rfl, hM6, hK6, hC6, hBo6⟩; have HS6 := Lib.hid hBo6.out; have HB6 := Lib.hid (bl2 HB5.out HS6.out); have HW6 := Lib.hid (bl2 HX.out HB6.out); clear zb lb; have zb := (HZ0.out w6 HB6.out).2; have lb := (HZ0.out w6 HB6.out).1; have HRsN := Lib.hid ((HRR.out.of HW6.out).reset (c := cp) a.id rfl))
      | ((with_reducible refine HRsN.out.mono ?_); rintro e w7 ⟨A7, c7, M7, rfl, hM7, hK7, hC7, hBo7⟩; have HS7 := Lib.hid hBo7.out; have HB7 := Lib.hid (bl2 HB6.out HS7.out); have HW7 := Lib.hid (bl2 HX.out HB7.out); clear zb lb; have zb := (HZ0.out w7 HB7.out).2; have lb := (HZ0.out w7 HB7.out).1; have HR4 : Hid (RR w4 A4 M4 PU) := Lib.hid (RR.mk' hK4.out.kr hM4.out hC4.out HPS.out HPL.out); have HR6 : Hid (RR w6 A6 M6 (clI (l.map Co.pl) now)) := Lib.hid (RR.mk' hK6.out.kr hM6.out hC6.out HCS.out HCLn.out); have HR7 : Hid (RR w7 A7 M7 (rsI (l.map Co.pl) a.id)) := Lib.hid (RR.mk' hK7.out.kr hM7.out hC7.out HRS.out HRLn.out); have HC57 := Lib.hid (bl2 HS6.out HS7.out); have HSa := Lib.hid ((HR4.out.of (bl2 HS5.out HC57.out)).same (c := c4) (c' := c5) ((hK5.out.kr.below HC57.out (Nat.le_refl _)).more HC57.out.size) hM5.out))
      | ((with_reducible refine HSa.out.mono ?_); rintro e w8 ⟨rfl, hB⟩; have HS8 := Lib.hid hB; have HB8 := Lib.hid (bl2 HB7.out HS8.out); have HW8 := Lib.hid (bl2 HX.out HB8.out); clear zb lb; have zb := (HZ0.out w8 HB8.out).2; have lb := (HZ0.out w8 HB8.out).1; clear hB; have HRc := Lib.hid ((HRR.out.of HW8.out).rclean (c := cp) now HCP.out rfl))
      | ((with_reducible refine HRc.out.mono ?_); rintro e w9 ⟨A8, c8, M8, rfl, hM8, hK8, hBo8⟩; have HS9 := Lib.hid hBo8.out; have HB9 := Lib.hid (bl2 HB8.out HS9.out); have HW9 := Lib.hid (bl2 HX.out HB9.out); clear zb lb; have zb := (HZ0.out w9 HB9.out).2; have lb := (HZ0.out w9 HB9.out).1; have HSb := Lib.hid ((HR6.out.of (bl2 (bl2 HS7.out HS8.out) HS9.out)).same (c := c6) (c' := c8) hK8.out.kr hM8.out))
      | ((with_reducible refine HSb.out.mono ?_); rintro e w10 ⟨rfl, hB⟩; have HS10 := Lib.hid hB; have HB10 := Lib.hid (bl2 HB9.out HS10.out); have HW10 := Lib.hid (bl2 HX.out HB10.out); clear zb lb; have zb := (HZ0.out w10 HB10.out).2; have lb := (HZ0.out w10 HB10.out).1; clear hB; have HRr := Lib.hid ((HRR.out.of HW10.out).rreset (c := cp) a.id rfl))
      | ((with_reducible refine HRr.out.mono ?_); rintro e w11 ⟨A9, c9, M9, rfl, hM9, hK9, hBo9⟩; have HS11 := Lib.hid hBo9.out; have HB11 := Lib.hid (bl2 HB10.out HS11.out); have HW11 := Lib.hid (bl2 HX.out HB11.out); clear zb lb; have zb := (HZ0.out w11 HB11.out).2; have lb := (HZ0.out w11 HB11.out).1; have HSc := Lib.hid ((HR7.out.of (bl2 (bl2 (bl2 HS8.out HS9.out) HS10.out) HS11.out)).same (c := c7) (c' := c9) hK9.out.kr hM9.out))
      | ((with_reducible refine HSc.out.mono ?_); rintro e w12 ⟨rfl, hB⟩; have HS12 := Lib.hid hB; have HB12 := Lib.hid (bl2 HB11.out HS12.out); have HW12 := Lib.hid (bl2 HX.out HB12.out); clear zb lb; have zb := (HZ0.out w12 HB12.out).2; have lb := (HZ0.out w12 HB12.out).1; clear hB))
    -- the rows that may be written over, and what stays
    have HV12 : Hid (Below w3.heap.size w3 w12) := Lib.hid (bl2 (bl2 (bl2 (bl2 (bl2 (bl2 (bl2 (bl2 HS4.out HS5.out) HS6.out) HS7.out) HS8.out) HS9.out) HS10.out) HS11.out) HS12.out)
    have H412 : Hid (Below w4.heap.size w4 w12) := Lib.hid (bl2 (bl2 (bl2 (bl2 (bl2 (bl2 (bl2 HS5.out HS6.out) HS7.out) HS8.out) HS9.out) HS10.out) HS11.out) HS12.out)
    have H712 : Hid (Below w7.heap.size w7 w12) := Lib.hid (bl2 (bl2 (bl2 (bl2 HS8.out HS9.out) HS10.out) HS11.out) HS12.out)
    have HKm : Hid (KMc w12 w3.heap.size A4 M4) := Lib.hid ((hK4.out.km rfl).of H412.out)
    have HKq0 : Hid (KMc w12 w4.heap.size A7 M7) := Lib.hid (((hK7.out.km rfl).mono (Nat.le_trans HS5.out.size HS6.out.size)).of H712.out)
    have HHI : Hid (∀ x ∈ M4, ∀ b off, x.ba = some ⟨b, off, none⟩ → x.bk ≠ [] → b < w4.heap.size) := Lib.hid (fun x hx b off hb hne => by
      obtain ⟨b', hb', _, hlt⟩ := (hK4.out.inn x hx).lt' hne
      rw [hb] at hb'; injection hb' with hb'
      have e : b = b' := hb'
      omega)
    have HZ3 : Hid (∀ wz, Below w3.heap.size w3 wz → w.heap.size < wz.heap.size ∧ ∀ o, wz.cell? ⟨w.heap.size, o, none⟩ = (#[.int .i64 a.id, .int .i64 a.cast, .int .i64 a.cool, .int .i64 a.charges, .int .i64 a.range, .int .i64 a.cost, .bool a.sight, .slice a.ea a.en a.ec] : Array Value)[o]?) := Lib.hid (fun wz hz => HZ0.out wz (bl2 HB3.out hz))
    clear zb lb
    go_loopg [17] M4.length (fun gh s17 wr => ∃ i : Nat, i ≤ M4.length ∧ gh = M4.length - i ∧ s17 = .int .i64 i ∧ Hid (Below w3.heap.size w3 wr) ∧ Hid (KMc wr w3.heap.size A4 M4) ∧ Hid (KMc wr w4.heap.size A7 M7))
    case atStart => exact ⟨0, by omega, by omega, rfl, HV12, HKm, HKq0⟩
    case round =>
      obtain ⟨i, hi, rfl, rfl, HV, HK, HKq⟩ := hrel
      have hlenM : (M4.length : Int) ≤ 1000 := HR4.out.len
      by_cases hlt : i < M4.length
      · have hlt' : (i : Int) < M4.length := by omega
        obtain ⟨x, hx⟩ : ∃ x, M4[i]? = some x := ⟨_, List.getElem?_eq_getElem hlt⟩
        have HXi := Lib.hid hx
        have hbx : (x.bk.length : Int) ≤ 1000 := by have := HR4.out.bk x (List.mem_of_getElem? hx); omega
        clear hx
        obtain ⟨pb, po, hAA, _, hpl0, hcc, _⟩ := HK.out.out.at' HXi.out
        obtain ⟨d0, d1⟩ := cellsCo (o := po + i * 2) hcc
        subst hAA
        clear hcc
        go_wp2
        clear d0 d1 hpl0
        go_loopg [18] x.bk.length (fun gh s18 wr => ∃ k : Nat, k ≤ x.bk.length ∧ gh = x.bk.length - k ∧ s18 = .int .i64 k ∧ Hid (Below w3.heap.size w3 wr) ∧ Hid (KMc wr w3.heap.size (some ⟨pb, po, none⟩) M4) ∧ Hid (KMc wr w4.heap.size A7 M7))
        case atStart => exact ⟨0, by omega, by omega, rfl, HV, HK, HKq⟩
        case round =>
          obtain ⟨k, hk, rfl, rfl, HV, HK, HKq⟩ := hrel
          obtain ⟨pb2, po2, hAA, hpN, hpl, hcc, hfz⟩ := HK.out.out.at' HXi.out
          injection hAA with hAA
          injection hAA with q8 q9
          subst q8; subst q9
          obtain ⟨d0, d1⟩ := cellsCo (o := po + i * 2) hcc
          by_cases hkt : k < x.bk.length
          · have hkt' : (k : Int) < x.bk.length := by omega
            obtain ⟨b, off, hb1, hb2, hb3, ⟨v, hb4⟩, hb5, hb6⟩ := HK.out.at' HXi.out hkt
            rw [hb1] at d1
            have HK2 := Lib.hid (hb6 (.int .i64 (-7)))
            have HV2 := Lib.hid (HV.out.setCell (p := ⟨b, off + k, none⟩) hb2 (.int .i64 (-7)))
            have HKq2 := Lib.hid (km_set1 HKq.out (b := b) (o := off + k) (HHI.out x (List.mem_of_getElem? HXi.out) b off hb1 (fun e => by rw [e] at hkt; simp at hkt)) (.int .i64 (-7)))
            clear hb2 hb6 hpN hfz hcc
            go_wp2
            go_roundg (x.bk.length - (k + 1))
            case measure => omega
            case rel => exact ⟨k + 1, by omega, rfl, by go_num, HV2, HK2, HKq2⟩
          · have hkt' : decide ((k : Int) < x.bk.length) = false := by simp; omega
            clear hpN hfz hcc
            go_wp2
            go_roundg (M4.length - (i + 1))
            case measure => omega
            case rel => exact ⟨i + 1, by omega, rfl, by go_num, HV, HK, HKq⟩
      · have hlt' : decide ((i : Int) < M4.length) = false := by simp; omega
        go_wp2
        clear hlt hlt' hi hlenM
        generalize wr = W1 at *
        go_loopg [19] M7.length (fun gh s19 wr => ∃ i : Nat, i ≤ M7.length ∧ gh = M7.length - i ∧ s19 = .int .i64 i ∧ Hid (Below w3.heap.size w3 wr) ∧ Hid (KMc wr w4.heap.size A7 M7))
        case atStart => exact ⟨0, by omega, by omega, rfl, HV, HKq⟩
        case round =>
          obtain ⟨i, hi, rfl, rfl, HV, HK⟩ := hrel
          have hlenM : (M7.length : Int) ≤ 1000 := HR7.out.len
          by_cases hlt : i < M7.length
          · have hlt' : (i : Int) < M7.length := by omega
            obtain ⟨x, hx⟩ : ∃ x, M7[i]? = some x := ⟨_, List.getElem?_eq_getElem hlt⟩
            have HXi := Lib.hid hx
            have hbx : (x.bk.length : Int) ≤ 1000 := by have := HR7.out.bk x (List.mem_of_getElem? hx); omega
            clear hx
            obtain ⟨pb, po, hAA, _, hpl0, hcc, _⟩ := HK.out.out.at' HXi.out
            obtain ⟨d0, d1⟩ := cellsCo (o := po + i * 2) hcc
            subst hAA
            clear hcc
            go_wp2
            clear d0 d1 hpl0
            go_loopg [20] x.bk.length (fun gh s20 wr => ∃ k : Nat, k ≤ x.bk.length ∧ gh = x.bk.length - k ∧ s20 = .int .i64 k ∧ Hid (Below w3.heap.size w3 wr) ∧ Hid (KMc wr w4.heap.size (some ⟨pb, po, none⟩) M7))
            case atStart => exact ⟨0, by omega, by omega, rfl, HV, HK⟩
            case round =>
              obtain ⟨k, hk, rfl, rfl, HV, HK⟩ := hrel
              obtain ⟨pb2, po2, hAA, hpN, hpl, hcc, hfz⟩ := HK.out.out.at' HXi.out
              injection hAA with hAA
              injection hAA with q8 q9
              subst q8; subst q9
              obtain ⟨d0, d1⟩ := cellsCo (o := po + i * 2) hcc
              by_cases hkt : k < x.bk.length
              · have hkt' : (k : Int) < x.bk.length := by omega
                obtain ⟨b, off, hb1, hb2, hb3, ⟨v, hb4⟩, hb5, hb6⟩ := HK.out.at' HXi.out hkt
                rw [hb1] at d1
                have HK2 := Lib.hid (hb6 (.int .i64 (-7)))
                have HV2 := Lib.hid (HV.out.setCell (p := ⟨b, off + k, none⟩) (Nat.le_trans HS4.out.size hb2) (.int .i64 (-7)))
                clear hb2 hb6 hpN hfz hcc
                go_wp2
                go_roundg (x.bk.length - (k + 1))
                case measure => omega
                case rel => exact ⟨k + 1, by omega, rfl, by go_num, HV2, HK2⟩
              · have hkt' : decide ((k : Int) < x.bk.length) = false := by simp; omega
                clear hpN hfz hcc
                go_wp2
                go_roundg (M7.length - (i + 1))
                case measure => omega
                case rel => exact ⟨i + 1, by omega, rfl, by go_num, HV, HK⟩
          · have hlt' : decide ((i : Int) < M7.length) = false := by simp; omega
            go_wp2
            have HRR3 := Lib.hid (HRR.out.of HW3.out)
            have HWAS := Lib.hid hK3.out.kr
            have HV0 := HV
            generalize wr = V at *
            have HZ : Hid (∀ wz, Below V.heap.size V wz → w.heap.size < wz.heap.size ∧ ∀ o, wz.cell? ⟨w.heap.size, o, none⟩ = (#[.int .i64 a.id, .int .i64 a.cast, .int .i64 a.cool, .int .i64 a.charges, .int .i64 a.range, .int .i64 a.cost, .bool a.sight, .slice a.ea a.en a.ec] : Array Value)[o]?) := Lib.hid (fun wz hz => HZ3.out wz (HV0.out.trans (hz.mono HV0.out.size)))
            obtain ⟨rb, hrb⟩ := bex (RtC (l.map Co.pl))
            have HRB := Lib.hid hrb
            clear hrb
            have HUV : Hid (∀ U, Below V.heap.size V U → Below w3.heap.size w3 U) := Lib.hid (fun U hU => HV0.out.trans (hU.mono HV0.out.size))
            have HR1 : Hid (∀ U, Below V.heap.size V U → Calls Try.prog 17 #[.slice A l.length cp] U fun e w' => e = .returned (.bool rb) ∧ Below U.heap.size U w') := Lib.hid (fun U hU => (HRR3.out.of (HUV.out U hU)).right rb HRB.out)
            have HR2 : Hid (∀ U, Below V.heap.size V U → Calls Try.prog 18 #[.slice A l.length cp] U fun e w' => e = .returned (.bool rb) ∧ Below U.heap.size U w') := Lib.hid (fun U hU => (HRR3.out.of (HUV.out U hU)).rright rb HRB.out)
            obtain ⟨r1, hr1⟩ : ∃ r1, rdI a.charges (wyI (l.map Co.pl) a.id now).length = r1 := ⟨_, rfl⟩
            obtain ⟨r2, hr2⟩ : ∃ r2, nxI (l.map Co.pl) a.id a.charges now = r2 := ⟨_, rfl⟩
            have HD1 : Hid (∀ U, Below V.heap.size V U → Calls Try.prog 19 #[.slice A l.length cp, ablv a, .int .i64 now] U fun e w' => e = .returned (.int .i64 r1) ∧ Below U.heap.size U w') := Lib.hid (fun U hU => (HRR3.out.of (HUV.out U hU)).ready a now r1 HCH.out hr1)
            have HD2 : Hid (∀ U, Below V.heap.size V U → Calls Try.prog 20 #[.slice A l.length cp, ablv a, .int .i64 now] U fun e w' => e = .returned (.int .i64 r1) ∧ Below U.heap.size U w') := Lib.hid (fun U hU => (HRR3.out.of (HUV.out U hU)).rready a now r1 HCH.out hr1)
            have HN1 : Hid (∀ U, Below V.heap.size V U → Calls Try.prog 21 #[.slice A l.length cp, ablv a, .int .i64 now] U fun e w' => e = .returned (.int .i64 r2) ∧ Below U.heap.size U w') := Lib.hid (fun U hU => (HRR3.out.of (HUV.out U hU)).next a now r2 HCH.out hr2)
            have HN2 : Hid (∀ U, Below V.heap.size V U → Calls Try.prog 22 #[.slice A l.length cp, ablv a, .int .i64 now] U fun e w' => e = .returned (.int .i64 r2) ∧ Below U.heap.size U w') := Lib.hid (fun U hU => (HRR3.out.of (HUV.out U hU)).rnext a now r2 HCH.out hr2)
            have HSd : Hid (∀ U, Below V.heap.size V U → Calls Try.prog 14 #[.slice A l.length cp, .slice A3 M3.length c3] U fun e w' => e = .returned (.bool true) ∧ Below U.heap.size U w') := Lib.hid (fun U hU => (HRR3.out.of (HUV.out U hU)).same (c := cp) (c' := c3) ((HWAS.out.below (HUV.out U hU) (Nat.le_refl _)).more (HUV.out U hU).size) hM3.out)
            clear hr1 hr2
            have hS0 : Below V.heap.size V V.drew := (Below.refl _ _).drew
            refine wp_region_noPanic ?_
            refine wp_region_held_drew (S := fun w' => Below V.heap.size V w') (by kernel_rfl) hS0 (fun _ => ?_)
            generalize V.drew = v0 at hS0 ⊢
            refine wpAnyH_take (i := 0) (oi := ⟨some 125, Op.move (Operand.tmp 7), 4, _, _, none⟩) (v := ?va0) rfl (by kernel_rfl) (by kernel_rfl) (by kernel_rfl) (fun _ _ _ h => h) (Or.inl ⟨by rfl, ?ha0⟩) hS0 ?ra0
            case ha0 => (intro wz hSw; go_simp <;> with_reducible rfl)
            (try simp only [Act.put, List.setIfInBounds_toArray, List.set_cons_zero, List.set_cons_succ])
            refine wpAnyH_take (i := 1) (oi := ⟨some 126, Op.move (Operand.tmp 125), 4, _, _, none⟩) (v := ?va1) rfl (by kernel_rfl) (by kernel_rfl) (by kernel_rfl) (fun _ _ _ h => h) (Or.inl ⟨by rfl, ?ha1⟩) hS0 ?ra1
            case ha1 => (intro wz hSw; go_simp <;> with_reducible rfl)
            (try simp only [Act.put, List.setIfInBounds_toArray, List.set_cons_zero, List.set_cons_succ])
            refine wpAnyH_take (i := 2) (oi := ⟨some 127, Op.move (Operand.tmp 16), 4, _, _, some (1, true)⟩) (v := ?va2) rfl (by kernel_rfl) (by kernel_rfl) (by kernel_rfl) (fun _ _ _ h => h) (Or.inl ⟨by rfl, ?ha2⟩) hS0 ?ra2
            case ha2 => (intro wz hSw; go_simp <;> with_reducible rfl)
            (try simp only [Act.put, List.setIfInBounds_toArray, List.set_cons_zero, List.set_cons_succ])
            refine wpAnyH_take (i := 3) (oi := ⟨some 128, Op.pick (Operand.tmp 126) (Operand.tmp 127) (Operand.const (Value.bool false)), 4, _, _, none⟩) (v := ?va3) rfl (by kernel_rfl) (by kernel_rfl) (by kernel_rfl) (fun _ _ _ h => h) (Or.inl ⟨by rfl, ?ha3⟩) hS0 ?ra3
            case ha3 => (intro wz hSw; go_simp <;> with_reducible rfl)
            (try simp only [Act.put, List.setIfInBounds_toArray, List.set_cons_zero, List.set_cons_succ])
            refine wpAnyH_take (i := 4) (oi := ⟨some 129, Op.move (Operand.tmp 128), 4, _, _, none⟩) (v := ?va4) rfl (by kernel_rfl) (by kernel_rfl) (by kernel_rfl) (fun _ _ _ h => h) (Or.inl ⟨by rfl, ?ha4⟩) hS0 ?ra4
            case ha4 => (intro wz hSw; go_simp <;> with_reducible rfl)
            (try simp only [Act.put, List.setIfInBounds_toArray, List.set_cons_zero, List.set_cons_succ])
            refine wpAnyH_take (i := 5) (oi := ⟨some 130, Op.move (Operand.tmp 0), 22, _, _, some (4, true)⟩) (v := ?va5) rfl (by kernel_rfl) (by kernel_rfl) (by kernel_rfl) (fun _ _ _ h => h) (Or.inl ⟨by rfl, ?ha5⟩) hS0 ?ra5
            case ha5 => (intro wz hSw; go_simp <;> with_reducible rfl)
            (try simp only [Act.put, List.setIfInBounds_toArray, List.set_cons_zero, List.set_cons_succ])
            refine wpAnyH_take (i := 7) (oi := ⟨some 132, Op.move (Operand.tmp 0), 22, _, _, some (4, true)⟩) (v := ?va7) rfl (by kernel_rfl) (by kernel_rfl) (by kernel_rfl) (fun _ _ _ h => h) (Or.inl ⟨by rfl, ?ha7⟩) hS0 ?ra7
            case ha7 => (intro wz hSw; go_simp <;> with_reducible rfl)
            (try simp only [Act.put, List.setIfInBounds_toArray, List.set_cons_zero, List.set_cons_succ])
            refine wpAnyH_ready (rs := [6]) (by kernel_rfl) (by simp) ?_
            refine AllReadyH.cons (o := ⟨some 131, Op.call { callee := Callee.value (Operand.func 17), args := #[Operand.tmp 130], argTypes := #[22] }, 4, _, _, some (4, true)⟩) rfl (fun K hK => ?_) AllReadyH.nil
            go_simp
            (with_reducible refine (HR1.out v0 hS0).mono ?_); rintro e v1 ⟨rfl, hB⟩; have hS1 : Below V.heap.size V v1 := hS0.trans (hB.mono hS0.size)
            refine hK.out _ _ hS1 (fun _ => ?_)
            clear hK K
            (try simp only [Act.put, List.setIfInBounds_toArray, List.set_cons_zero, List.set_cons_succ])
            refine wpAnyH_ready (rs := [8]) (by kernel_rfl) (by simp) ?_
            refine AllReadyH.cons (o := ⟨some 133, Op.call { callee := Callee.value (Operand.func 18), args := #[Operand.tmp 132], argTypes := #[22] }, 4, _, _, some (4, true)⟩) rfl (fun K hK => ?_) AllReadyH.nil
            go_simp
            (with_reducible refine (HR2.out v1 hS1).mono ?_); rintro e v2 ⟨rfl, hB⟩; have hS2 : Below V.heap.size V v2 := hS1.trans (hB.mono hS1.size)
            refine hK.out _ _ hS2 (fun _ => ?_)
            clear hK K
            (try simp only [Act.put, List.setIfInBounds_toArray, List.set_cons_zero, List.set_cons_succ])
            refine wpAnyH_take (i := 9) (oi := ⟨some 134, Op.binOp BinOp.eql 4 (Operand.tmp 131) (Operand.tmp 133) 4, 4, _, _, some (4, true)⟩) (v := ?va9) rfl (by kernel_rfl) (by kernel_rfl) (by kernel_rfl) (fun _ _ _ h => h) (Or.inl ⟨by rfl, ?ha9⟩) hS2 ?ra9
            case ha9 => (intro wz hSw; go_simp <;> with_reducible rfl)
            (try simp only [Act.put, List.setIfInBounds_toArray, List.set_cons_zero, List.set_cons_succ])
            refine wpAnyH_take (i := 10) (oi := ⟨some 135, Op.pick (Operand.tmp 129) (Operand.tmp 134) (Operand.const (Value.bool false)), 4, _, _, none⟩) (v := ?va10) rfl (by kernel_rfl) (by kernel_rfl) (by kernel_rfl) (fun _ _ _ h => h) (Or.inl ⟨by rfl, ?ha10⟩) hS2 ?ra10
            case ha10 => (intro wz hSw; go_simp <;> with_reducible rfl)
            (try simp only [Act.put, List.setIfInBounds_toArray, List.set_cons_zero, List.set_cons_succ])
            refine wpAnyH_take (i := 11) (oi := ⟨some 136, Op.move (Operand.tmp 135), 4, _, _, none⟩) (v := ?va11) rfl (by kernel_rfl) (by kernel_rfl) (by kernel_rfl) (fun _ _ _ h => h) (Or.inl ⟨by rfl, ?ha11⟩) hS2 ?ra11
            case ha11 => (intro wz hSw; go_simp <;> with_reducible rfl)
            (try simp only [Act.put, List.setIfInBounds_toArray, List.set_cons_zero, List.set_cons_succ])
            refine wpAnyH_take (i := 12) (oi := ⟨some 137, Op.move (Operand.tmp 0), 22, _, _, some (11, true)⟩) (v := ?va12) rfl (by kernel_rfl) (by kernel_rfl) (by kernel_rfl) (fun _ _ _ h => h) (Or.inl ⟨by rfl, ?ha12⟩) hS2 ?ra12
            case ha12 => (intro wz hSw; go_simp <;> with_reducible rfl)
            (try simp only [Act.put, List.setIfInBounds_toArray, List.set_cons_zero, List.set_cons_succ])
            refine wpAnyH_take (i := 13) (oi := ⟨some 138, Op.load 25 (Operand.tmp 4), 25, _, _, some (11, true)⟩) (v := ?va13) rfl (by kernel_rfl) (by kernel_rfl) (by kernel_rfl) (fun _ _ _ h => h) (Or.inl ⟨by rfl, ?ha13⟩) hS2 ?ra13
            case ha13 => (intro wz hSw; have z0 := (HZ.out wz hSw).2; have z1 := (HZ.out wz hSw).1; go_simp <;> with_reducible rfl)
            (try simp only [Act.put, List.setIfInBounds_toArray, List.set_cons_zero, List.set_cons_succ])
            refine wpAnyH_take (i := 14) (oi := ⟨some 139, Op.move (Operand.tmp 2), 3, _, _, some (11, true)⟩) (v := ?va14) rfl (by kernel_rfl) (by kernel_rfl) (by kernel_rfl) (fun _ _ _ h => h) (Or.inl ⟨by rfl, ?ha14⟩) hS2 ?ra14
            case ha14 => (intro wz hSw; go_simp <;> with_reducible rfl)
            (try simp only [Act.put, List.setIfInBounds_toArray, List.set_cons_zero, List.set_cons_succ])
            refine wpAnyH_take (i := 16) (oi := ⟨some 141, Op.move (Operand.tmp 0), 22, _, _, some (11, true)⟩) (v := ?va16) rfl (by kernel_rfl) (by kernel_rfl) (by kernel_rfl) (fun _ _ _ h => h) (Or.inl ⟨by rfl, ?ha16⟩) hS2 ?ra16
            case ha16 => (intro wz hSw; go_simp <;> with_reducible rfl)
            (try simp only [Act.put, List.setIfInBounds_toArray, List.set_cons_zero, List.set_cons_succ])
            refine wpAnyH_take (i := 17) (oi := ⟨some 142, Op.load 25 (Operand.tmp 4), 25, _, _, some (11, true)⟩) (v := ?va17) rfl (by kernel_rfl) (by kernel_rfl) (by kernel_rfl) (fun _ _ _ h => h) (Or.inl ⟨by rfl, ?ha17⟩) hS2 ?ra17
            case ha17 => (intro wz hSw; have z0 := (HZ.out wz hSw).2; have z1 := (HZ.out wz hSw).1; go_simp <;> with_reducible rfl)
            (try simp only [Act.put, List.setIfInBounds_toArray, List.set_cons_zero, List.set_cons_succ])
            refine wpAnyH_take (i := 18) (oi := ⟨some 143, Op.move (Operand.tmp 2), 3, _, _, some (11, true)⟩) (v := ?va18) rfl (by kernel_rfl) (by kernel_rfl) (by kernel_rfl) (fun _ _ _ h => h) (Or.inl ⟨by rfl, ?ha18⟩) hS2 ?ra18
            case ha18 => (intro wz hSw; go_simp <;> with_reducible rfl)
            (try simp only [Act.put, List.setIfInBounds_toArray, List.set_cons_zero, List.set_cons_succ])
            refine wpAnyH_ready (rs := [15]) (by kernel_rfl) (by simp) ?_
            refine AllReadyH.cons (o := ⟨some 140, Op.call { callee := Callee.value (Operand.func 19), args := #[Operand.tmp 137, Operand.tmp 138, Operand.tmp 139], argTypes := #[22, 25, 3] }, 3, _, _, some (11, true)⟩) rfl (fun K hK => ?_) AllReadyH.nil
            go_simp
            (with_reducible refine (HD1.out v2 hS2).mono ?_); rintro e v3 ⟨rfl, hB⟩; have hS3 : Below V.heap.size V v3 := hS2.trans (hB.mono hS2.size)
            refine hK.out _ _ hS3 (fun _ => ?_)
            clear hK K
            (try simp only [Act.put, List.setIfInBounds_toArray, List.set_cons_zero, List.set_cons_succ])
            refine wpAnyH_ready (rs := [19]) (by kernel_rfl) (by simp) ?_
            refine AllReadyH.cons (o := ⟨some 144, Op.call { callee := Callee.value (Operand.func 20), args := #[Operand.tmp 141, Operand.tmp 142, Operand.tmp 143], argTypes := #[22, 25, 3] }, 3, _, _, some (11, true)⟩) rfl (fun K hK => ?_) AllReadyH.nil
            go_simp
            (with_reducible refine (HD2.out v3 hS3).mono ?_); rintro e v4 ⟨rfl, hB⟩; have hS4 : Below V.heap.size V v4 := hS3.trans (hB.mono hS3.size)
            refine hK.out _ _ hS4 (fun _ => ?_)
            clear hK K
            (try simp only [Act.put, List.setIfInBounds_toArray, List.set_cons_zero, List.set_cons_succ])
            refine wpAnyH_take (i := 20) (oi := ⟨some 145, Op.binOp BinOp.eql 3 (Operand.tmp 140) (Operand.tmp 144) 3, 4, _, _, some (11, true)⟩) (v := ?va20) rfl (by kernel_rfl) (by kernel_rfl) (by kernel_rfl) (fun _ _ _ h => h) (Or.inl ⟨by rfl, ?ha20⟩) hS4 ?ra20
            case ha20 => (intro wz hSw; go_simp <;> with_reducible rfl)
            (try simp only [Act.put, List.setIfInBounds_toArray, List.set_cons_zero, List.set_cons_succ])
            refine wpAnyH_take (i := 21) (oi := ⟨some 146, Op.pick (Operand.tmp 136) (Operand.tmp 145) (Operand.const (Value.bool false)), 4, _, _, none⟩) (v := ?va21) rfl (by kernel_rfl) (by kernel_rfl) (by kernel_rfl) (fun _ _ _ h => h) (Or.inl ⟨by rfl, ?ha21⟩) hS4 ?ra21
            case ha21 => (intro wz hSw; go_simp <;> with_reducible rfl)
            (try simp only [Act.put, List.setIfInBounds_toArray, List.set_cons_zero, List.set_cons_succ])
            refine wpAnyH_take (i := 22) (oi := ⟨some 147, Op.move (Operand.tmp 146), 4, _, _, none⟩) (v := ?va22) rfl (by kernel_rfl) (by kernel_rfl) (by kernel_rfl) (fun _ _ _ h => h) (Or.inl ⟨by rfl, ?ha22⟩) hS4 ?ra22
            case ha22 => (intro wz hSw; go_simp <;> with_reducible rfl)
            (try simp only [Act.put, List.setIfInBounds_toArray, List.set_cons_zero, List.set_cons_succ])
            refine wpAnyH_take (i := 23) (oi := ⟨some 148, Op.move (Operand.tmp 0), 22, _, _, some (22, true)⟩) (v := ?va23) rfl (by kernel_rfl) (by kernel_rfl) (by kernel_rfl) (fun _ _ _ h => h) (Or.inl ⟨by rfl, ?ha23⟩) hS4 ?ra23
            case ha23 => (intro wz hSw; go_simp <;> with_reducible rfl)
            (try simp only [Act.put, List.setIfInBounds_toArray, List.set_cons_zero, List.set_cons_succ])
            refine wpAnyH_take (i := 24) (oi := ⟨some 149, Op.load 25 (Operand.tmp 4), 25, _, _, some (22, true)⟩) (v := ?va24) rfl (by kernel_rfl) (by kernel_rfl) (by kernel_rfl) (fun _ _ _ h => h) (Or.inl ⟨by rfl, ?ha24⟩) hS4 ?ra24
            case ha24 => (intro wz hSw; have z0 := (HZ.out wz hSw).2; have z1 := (HZ.out wz hSw).1; go_simp <;> with_reducible rfl)
            (try simp only [Act.put, List.setIfInBounds_toArray, List.set_cons_zero, List.set_cons_succ])
            refine wpAnyH_take (i := 25) (oi := ⟨some 150, Op.move (Operand.tmp 2), 3, _, _, some (22, true)⟩) (v := ?va25) rfl (by kernel_rfl) (by kernel_rfl) (by kernel_rfl) (fun _ _ _ h => h) (Or.inl ⟨by rfl, ?ha25⟩) hS4 ?ra25
            case ha25 => (intro wz hSw; go_simp <;> with_reducible rfl)
            (try simp only [Act.put, List.setIfInBounds_toArray, List.set_cons_zero, List.set_cons_succ])
            refine wpAnyH_take (i := 27) (oi := ⟨some 152, Op.move (Operand.tmp 0), 22, _, _, some (22, true)⟩) (v := ?va27) rfl (by kernel_rfl) (by kernel_rfl) (by kernel_rfl) (fun _ _ _ h => h) (Or.inl ⟨by rfl, ?ha27⟩) hS4 ?ra27
            case ha27 => (intro wz hSw; go_simp <;> with_reducible rfl)
            (try simp only [Act.put, List.setIfInBounds_toArray, List.set_cons_zero, List.set_cons_succ])
            refine wpAnyH_take (i := 28) (oi := ⟨some 153, Op.load 25 (Operand.tmp 4), 25, _, _, some (22, true)⟩) (v := ?va28) rfl (by kernel_rfl) (by kernel_rfl) (by kernel_rfl) (fun _ _ _ h => h) (Or.inl ⟨by rfl, ?ha28⟩) hS4 ?ra28
            case ha28 => (intro wz hSw; have z0 := (HZ.out wz hSw).2; have z1 := (HZ.out wz hSw).1; go_simp <;> with_reducible rfl)
            (try simp only [Act.put, List.setIfInBounds_toArray, List.set_cons_zero, List.set_cons_succ])
            refine wpAnyH_take (i := 29) (oi := ⟨some 154, Op.move (Operand.tmp 2), 3, _, _, some (22, true)⟩) (v := ?va29) rfl (by kernel_rfl) (by kernel_rfl) (by kernel_rfl) (fun _ _ _ h => h) (Or.inl ⟨by rfl, ?ha29⟩) hS4 ?ra29
            case ha29 => (intro wz hSw; go_simp <;> with_reducible rfl)
            (try simp only [Act.put, List.setIfInBounds_toArray, List.set_cons_zero, List.set_cons_succ])
            refine wpAnyH_ready (rs := [26]) (by kernel_rfl) (by simp) ?_
            refine AllReadyH.cons (o := ⟨some 151, Op.call { callee := Callee.value (Operand.func 21), args := #[Operand.tmp 148, Operand.tmp 149, Operand.tmp 150], argTypes := #[22, 25, 3] }, 3, _, _, some (22, true)⟩) rfl (fun K hK => ?_) AllReadyH.nil
            go_simp
            (with_reducible refine (HN1.out v4 hS4).mono ?_); rintro e v5 ⟨rfl, hB⟩; have hS5 : Below V.heap.size V v5 := hS4.trans (hB.mono hS4.size)
            refine hK.out _ _ hS5 (fun _ => ?_)
            clear hK K
            (try simp only [Act.put, List.setIfInBounds_toArray, List.set_cons_zero, List.set_cons_succ])
            refine wpAnyH_ready (rs := [30]) (by kernel_rfl) (by simp) ?_
            refine AllReadyH.cons (o := ⟨some 155, Op.call { callee := Callee.value (Operand.func 22), args := #[Operand.tmp 152, Operand.tmp 153, Operand.tmp 154], argTypes := #[22, 25, 3] }, 3, _, _, some (22, true)⟩) rfl (fun K hK => ?_) AllReadyH.nil
            go_simp
            (with_reducible refine (HN2.out v5 hS5).mono ?_); rintro e v6 ⟨rfl, hB⟩; have hS6 : Below V.heap.size V v6 := hS5.trans (hB.mono hS5.size)
            refine hK.out _ _ hS6 (fun _ => ?_)
            clear hK K
            (try simp only [Act.put, List.setIfInBounds_toArray, List.set_cons_zero, List.set_cons_succ])
            refine wpAnyH_take (i := 31) (oi := ⟨some 156, Op.binOp BinOp.eql 3 (Operand.tmp 151) (Operand.tmp 155) 3, 4, _, _, some (22, true)⟩) (v := ?va31) rfl (by kernel_rfl) (by kernel_rfl) (by kernel_rfl) (fun _ _ _ h => h) (Or.inl ⟨by rfl, ?ha31⟩) hS6 ?ra31
            case ha31 => (intro wz hSw; go_simp <;> with_reducible rfl)
            (try simp only [Act.put, List.setIfInBounds_toArray, List.set_cons_zero, List.set_cons_succ])
            refine wpAnyH_take (i := 32) (oi := ⟨some 157, Op.pick (Operand.tmp 147) (Operand.tmp 156) (Operand.const (Value.bool false)), 4, _, _, none⟩) (v := ?va32) rfl (by kernel_rfl) (by kernel_rfl) (by kernel_rfl) (fun _ _ _ h => h) (Or.inl ⟨by rfl, ?ha32⟩) hS6 ?ra32
            case ha32 => (intro wz hSw; go_simp <;> with_reducible rfl)
            (try simp only [Act.put, List.setIfInBounds_toArray, List.set_cons_zero, List.set_cons_succ])
            refine wpAnyH_take (i := 33) (oi := ⟨some 158, Op.move (Operand.tmp 157), 4, _, _, none⟩) (v := ?va33) rfl (by kernel_rfl) (by kernel_rfl) (by kernel_rfl) (fun _ _ _ h => h) (Or.inl ⟨by rfl, ?ha33⟩) hS6 ?ra33
            case ha33 => (intro wz hSw; go_simp <;> with_reducible rfl)
            (try simp only [Act.put, List.setIfInBounds_toArray, List.set_cons_zero, List.set_cons_succ])
            refine wpAnyH_take (i := 34) (oi := ⟨some 159, Op.move (Operand.tmp 0), 22, _, _, some (33, true)⟩) (v := ?va34) rfl (by kernel_rfl) (by kernel_rfl) (by kernel_rfl) (fun _ _ _ h => h) (Or.inl ⟨by rfl, ?ha34⟩) hS6 ?ra34
            case ha34 => (intro wz hSw; go_simp <;> with_reducible rfl)
            (try simp only [Act.put, List.setIfInBounds_toArray, List.set_cons_zero, List.set_cons_succ])
            refine wpAnyH_take (i := 35) (oi := ⟨some 160, Op.move (Operand.tmp 9), 22, _, _, some (33, true)⟩) (v := ?va35) rfl (by kernel_rfl) (by kernel_rfl) (by kernel_rfl) (fun _ _ _ h => h) (Or.inl ⟨by rfl, ?ha35⟩) hS6 ?ra35
            case ha35 => (intro wz hSw; go_simp <;> with_reducible rfl)
            (try simp only [Act.put, List.setIfInBounds_toArray, List.set_cons_zero, List.set_cons_succ])
            refine wpAnyH_ready (rs := [36]) (by kernel_rfl) (by simp) ?_
            refine AllReadyH.cons (o := ⟨some 161, Op.call { callee := Callee.value (Operand.func 14), args := #[Operand.tmp 159, Operand.tmp 160], argTypes := #[22, 22] }, 4, _, _, some (33, true)⟩) rfl (fun K hK => ?_) AllReadyH.nil
            go_simp
            (with_reducible refine (HSd.out v6 hS6).mono ?_); rintro e v7 ⟨rfl, hB⟩; have hS7 : Below V.heap.size V v7 := hS6.trans (hB.mono hS6.size)
            refine hK.out _ _ hS7 (fun _ => ?_)
            clear hK K
            (try simp only [Act.put, List.setIfInBounds_toArray, List.set_cons_zero, List.set_cons_succ])
            refine wpAnyH_take (i := 37) (oi := ⟨some 162, Op.pick (Operand.tmp 158) (Operand.tmp 161) (Operand.const (Value.bool false)), 4, _, _, none⟩) (v := ?va37) rfl (by kernel_rfl) (by kernel_rfl) (by kernel_rfl) (fun _ _ _ h => h) (Or.inl ⟨by rfl, ?ha37⟩) hS7 ?ra37
            case ha37 => (intro wz hSw; go_simp <;> with_reducible rfl)
            (try simp only [Act.put, List.setIfInBounds_toArray, List.set_cons_zero, List.set_cons_succ])
            refine wpAnyH_take (i := 38) (oi := ⟨some 6, Op.assign (Operand.tmp 162), 4, _, _, none⟩) (v := ?va38) rfl (by kernel_rfl) (by kernel_rfl) (by kernel_rfl) (fun _ _ _ h => h) (Or.inl ⟨by rfl, ?ha38⟩) hS7 ?ra38
            case ha38 => (intro wz hSw; go_simp <;> with_reducible rfl)
            (try simp only [Act.put, List.setIfInBounds_toArray, List.set_cons_zero, List.set_cons_succ])
            refine wpAnyH_done (by kernel_rfl) ?_ _
            refine NoPanic.normal ?_
            have HFIN := Lib.hid hS7
            clear hS0 hS1 hS2 hS3 hS4 hS5 hS6 hS7
            go_wp2
            go_ret
            exact ⟨rfl, bl2 HW3.out (HUV.out _ HFIN.out)⟩


set_option maxRecDepth 100000 in
theorem lifted (os : Os) (started : os.Started) (H : Type) (enc : TypeId × Value → H) :
    ReturnsInHanded {} Try.checked os 3 .any (Rows.coolTellsSpec.pre6 enc Try.prog Try.f3 Rows.coolTellsRow.domain false) (Rows.coolTellsSpec.post enc Try.prog Try.f3 false true false false) := by
  refine returnsInHanded_of_change (C := Try.checked) own started (by kernel_rfl) Try.func3
    (ChangeSpec.witness6 (enc := enc) (C := Try.checked) false ⟨#[], #[.slice none 0 0, .agg #[.int .i64 0, .int .i64 0, .int .i64 0, .int .i64 0, .int .i64 0, .int .i64 0, .bool false, .slice none 0 0], .int .i64 0], []⟩ 8 (by kernel_rfl) (by kernel_rfl) (by kernel_rfl) (by kernel_rfl)) ?_
  intro W base args ds gs before hval0 hW hcnd _
  have hval : ∀ (j : Nat) t v, Try.f3.params[j]? = some t → args[j]? = some v → Value.okWide Try.prog W .any base t v := hval0
  have hW' := hW
  obtain ⟨p, q, hA0, hV, rfl, hfz, hnd⟩ := hW
  have hA : DataW.TrodAll enc Try.prog W 0 (fun _ => true) true Try.f3.params.toList args.toList ds p := hA0
  rw [Try.params3] at hA hval
  obtain ⟨v0, vs0, d0, ds0, p0, q0, hargs, rfl, rfl, h0, r0⟩ := trodAll_cons hA
  obtain ⟨v1, vs1, d1, ds1, p1, q1, rfl, rfl, rfl, h1, r1⟩ := trodAll_cons r0
  obtain ⟨v2, vs2, d2, ds2, p2, q2, rfl, rfl, rfl, h2, r2⟩ := trodAll_cons r1
  obtain ⟨rfl, rfl, rfl⟩ := trodAll_nil r2
  obtain rfl : args = #[v0, v1, v2] := by cases args; simp_all
  obtain ⟨rfl, rfl⟩ := trodVars_none hV
  clear hA0 hval0
  have hlt0 : ∀ x ∈ p0, x.block < W.heap.size := fun x hx => hW'.lt x (by simp [hx])
  have hk0 := h0
  obtain ⟨A0, c0, l0, rfl, hc0, hr0, hf0⟩ := Opn.viewCo (hval 0 22 v0 rfl rfl) h0
  have hlt1 : ∀ x ∈ p1, x.block < W.heap.size := fun x hx => hW'.lt x (by simp [hx])
  have hk1 := h1
  obtain ⟨a1, rfl, hf1⟩ := Opn.viewA (hval 1 25 v1 rfl rfl) h1
  obtain ⟨a2, rfl, rfl, rfl, w2⟩ := open_int Try.underlying3 (hval 2 3 v2 rfl rfl) h2
  simp only [List.append_nil] at hW'
  refine (walk W A0 c0 l0 hc0 hr0 hf0 a1 hf1 a2 (Kop.fits_of w2)).mono fun e W' ⟨he, hg⟩ => ?_
  subst he
  exact ⟨_, rfl, _, _, _, [], _, [], hW', (trodAll_cons_mk (shut_bool Try.underlying4 _) trodAll_mk0), (trodAll_cons_mk (Below.trod Kop.laidOut (by kernel_rfl) (of_decide_eq_true (by kernel_rfl)) hk0 hg hlt0) (trodAll_cons_mk (Below.trod Kop.laidOut (by kernel_rfl) (of_decide_eq_true (by kernel_rfl)) hk1 hg hlt1) (trodAll_cons_mk (shut_int Try.underlying3 w2) trodAll_mk0))), rfl, hg.frame _, fun h => by cases h⟩

theorem over : Rows.coolTellsRow.holds Try.pinned (OpenSpec.ofChange Rows.coolTellsSpec) :=
  OpenClaim.holds_of_wide 3 Try.f3 rfl rfl rfl rfl rfl rfl rfl ⟨rfl, rfl, rfl, rfl, rfl⟩ rfl rfl rfl rfl rfl (by kernel_rfl) Try.func3 (by kernel_rfl)
    (of_decide_eq_true (by kernel_rfl)) (by unfold Func.isWrapper; first | (rw [if_pos (by decide +kernel)]; kernel_rfl) | (rw [if_neg (by decide +kernel)]; exact ⟨rfl, rfl⟩))
    (fun os started H enc _ => lifted os started H enc)

/-- The given statement. -/
theorem proved : Rows.CoolTellsSaid :=
  over
#print axioms proved
end Go.Proofs.Ytmdnjkiciaidiaa.coolTells
