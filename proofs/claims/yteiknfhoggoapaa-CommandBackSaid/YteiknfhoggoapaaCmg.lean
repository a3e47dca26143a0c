/-
  Contracts of the program's Decode and the document's.
-/
import Derived.Test.YteiknfhoggoapaaCmf
namespace Go.Proofs.Yteiknfhoggoapaa.Con
open Go.RowKit Pm Mth
set_option linter.unusedVariables false

theorem de_bad {l : List Int} (h : rtB (say l) = false) : deC l = zC ∧ deE l = 2 := by simp [deC, deE, okB, h]
theorem de_other {l : List Int} (h : ld (say l) ≠ l) : deC l = zC ∧ deE l = 2 := by simp [deC, deE, okB, h]
theorem de_good {l : List Int} (h : rtB (say l) = true) (h2 : ld (say l) = l) : deC l = say l ∧ deE l = 0 := by simp [deC, deE, okB, h, h2]
theorem rd_all {w : World} {B : Nat} {A : Option Addr} {l : List Int} (hr : Rd .u8 w B A l) (hB : B ≤ w.heap.size) : ∀ V, Below w.heap.size w V → Rd .u8 V B A l := fun V hV => hr.below hV hB
set_option maxRecDepth 20000 in
set_option maxHeartbeats 4000000 in
theorem decode_any (A : Option Addr) (c : Nat) (l : List Int) (w : World) (B : Nat) (hr : Rd .u8 w B A l) (hB : B ≤ w.heap.size) (hl : (l.length : Int) ≤ 10000) (hb : Byt l) (hc : l.length ≤ c) :
    Calls Try.prog 13 #[.slice A l.length c] w fun e w' => e = .returned (.tuple #[cv (deC l), .int .i64 (deE l)]) ∧ Below w.heap.size w w' := by
  have HRa := Lib.hid (rd_all hr hB)
  have HBy := Lib.hid hb; have HC := Lib.hid hc
  have HF := Lib.hid (fc_say hb)
  have HTl := Lib.hid (say_text (l := l))
  have HRe : Hid (∀ V, Below w.heap.size w V → Calls Try.prog 20 #[.slice A l.length c] V fun e w' => e = .returned (cv (say l)) ∧ Below V.heap.size V w') := Lib.hid (fun V hV => read_any A c l V B (hr.below hV hB) (Nat.le_trans hB hV.size) (by omega) hb hc)
  have HB := Lib.hid hB
  have HX0 : Hid (Bx (w.alloc (.cells #[.int .i64 0, .string { data := #[] }, .int .i64 0, .int .i64 0] 23)) w.heap.size zC) := Lib.hid (heap_alloc_new w _)
  have HV0 : Hid (Below w.heap.size w (w.alloc (.cells #[.int .i64 0, .string { data := #[] }, .int .i64 0, .int .i64 0] 23))) := Lib.hid (by go_grown)
  have HS : Hid (say l = say l) := Lib.hid rfl
  generalize hs : say l = s at HF HTl HRe
  have HSy := Lib.hid hs
  clear hr hb hc hB hs HS
  go_enter Try.func13, Try.ntmps13
  go_wp2_with (fail)
  generalize w.alloc (.cells #[.int .i64 0, .string { data := #[] }, .int .i64 0, .int .i64 0] 23) = w0 at *
  have hq0 : w.heap.size < w0.heap.size := lt_of_block HX0.out
  (with_reducible refine (HRe.out _ HV0.out).mono ?_); rintro e w1 ⟨rfl, hB1⟩
  have HX1 := Lib.hid (HX0.out.of hB1 hq0)
  have HV1 : Hid (Below w.heap.size w w1) := Lib.hid (HV0.out.trans (hB1.mono (Nat.le_of_lt hq0)))
  have hq1 : w.heap.size < w1.heap.size := lt_of_block HX1.out
  have HX2 := Lib.hid (HX1.out.alloc (oC s))
  have HY2 : Hid (Bx (w1.alloc (oC s)) w1.heap.size s) := Lib.hid (heap_alloc_new w1 _)
  have HV2 := Lib.hid (HV1.out.alloc (Nat.le_of_lt hq1) (oC s))
  clear hB1
  go_wp2_with (fail)
  generalize w1.alloc (.cells #[.int .i64 s.d, .string (strOfNums s.t), .int .i64 s.a, .int .i64 s.b] 23) = w2 at *
  have hq2 : w.heap.size < w2.heap.size := lt_of_block HX2.out
  have hp2 : w1.heap.size < w2.heap.size := lt_of_block HY2.out
  (with_reducible refine (encode_any s HF.out (by have := HTl.out; omega) w2).mono ?_); rintro e w3 ⟨lm, A3, c3, HL3, rfl, HO3, HB3⟩
  have HX3 := Lib.hid (HX2.out.of HB3.out hq2)
  have HY3 := Lib.hid (HY2.out.of HB3.out hp2)
  have HV3 : Hid (Below w.heap.size w w3) := Lib.hid (HV2.out.trans (HB3.out.mono (Nat.le_of_lt hq2)))
  obtain ⟨z0, z1, z2, z3⟩ := HX3.out.at
  simp only [zC] at z0 z1 z2 z3
  have zf := frozOf' HX3.out
  obtain ⟨y0, y1, y2, y3⟩ := HY3.out.at
  have HZn : Hid (Bx ((((w3.setCell ⟨w.heap.size, 0, none⟩ (.int .i64 0)).setCell ⟨w.heap.size, 1, none⟩ (.string { data := #[] })).setCell ⟨w.heap.size, 2, none⟩ (.int .i64 0)).setCell ⟨w.heap.size, 3, none⟩ (.int .i64 0)) w.heap.size zC) := Lib.hid (HX3.out.put zC)
  have HVn : Hid (Below w.heap.size w ((((w3.setCell ⟨w.heap.size, 0, none⟩ (.int .i64 0)).setCell ⟨w.heap.size, 1, none⟩ (.string { data := #[] })).setCell ⟨w.heap.size, 2, none⟩ (.int .i64 0)).setCell ⟨w.heap.size, 3, none⟩ (.int .i64 0))) := Lib.hid (below_put HV3.out (Nat.le_refl _) _ _ _ _)
  cases hr : rtB s with
  | false =>
    have hE : enE s = 1 := by simp [enE, hr]
    have HD : Hid (deC l = zC ∧ deE l = 2) := Lib.hid (de_bad (by rw [HSy.out]; exact hr))
    rw [hE]
    clear hE hr
    go_wp2
    obtain ⟨q0, q1, q2, q3⟩ := HZn.out.at
    refine bodyPost_ret (by simp [results, Try.results13, go_sem, q0, q1, q2, q3]; try rfl) rfl ?_
    exact ⟨by rw [HD.out.1, HD.out.2], HVn.out⟩
  | true =>
    have hE : enE s = 0 := by simp [enE, hr]
    have hL : enL s = ld s := by simp [enL, hr]
    have HLm : Hid (lm = ld s) := Lib.hid (HL3.out.trans hL)
    have HRr : Hid (rtB s = true) := Lib.hid hr
    rw [hE]
    clear hE hL hr
    obtain ⟨x, hx⟩ := bex (lm = l)
    have HEq := Lib.hid (equal_any A3 A c3 c lm l w3 _ B (own_rd HO3.out) (HRa.out _ HV3.out) (by rw [HLm.out]; exact ld_byt HF.out HRr.out) HBy.out x hx)
    have HXx := Lib.hid hx; clear hx
    cases x with
    | false =>
      have HD : Hid (deC l = zC ∧ deE l = 2) := Lib.hid (de_other (by
        rw [HSy.out, ← HLm.out]
        intro e
        have := HXx.out.2 e
        cases this))
      go_wp2_with ((with_reducible refine HEq.out.mono ?_); rintro e w4 ⟨rfl, rfl⟩)
      obtain ⟨q0, q1, q2, q3⟩ := HZn.out.at
      refine bodyPost_ret (by simp [results, Try.results13, go_sem, q0, q1, q2, q3]; try rfl) rfl ?_
      exact ⟨by rw [HD.out.1, HD.out.2], HVn.out⟩
    | true =>
      have HD : Hid (deC l = say l ∧ deE l = 0) := Lib.hid (de_good (by rw [HSy.out]; exact HRr.out) (by rw [HSy.out, ← HLm.out]; exact HXx.out.1 rfl))
      have HZs : Hid (Bx ((((w3.setCell ⟨w.heap.size, 0, none⟩ (.int .i64 s.d)).setCell ⟨w.heap.size, 1, none⟩ (.string (strOfNums s.t))).setCell ⟨w.heap.size, 2, none⟩ (.int .i64 s.a)).setCell ⟨w.heap.size, 3, none⟩ (.int .i64 s.b)) w.heap.size s) := Lib.hid (HX3.out.put s)
      go_wp2_with ((with_reducible refine HEq.out.mono ?_); rintro e w4 ⟨rfl, rfl⟩)
      obtain ⟨q0, q1, q2, q3⟩ := HZs.out.at
      refine bodyPost_ret (by simp [results, Try.results13, go_sem, q0, q1, q2, q3]; try rfl) rfl ?_
      exact ⟨by rw [HD.out.1, HD.out.2, HSy.out], below_put HV3.out (Nat.le_refl _) _ _ _ _⟩
/-! ### the document's own -/
theorem Bx.other {w : World} {b r : Nat} {c : Cm} (h : Bx w b c) (hne : b ≠ r) (v : Value) (o : Nat) : Bx (w.setCell ⟨r, o, none⟩ v) b c := (heap_setCell_other w ⟨r, o, none⟩ b v hne).trans h
theorem de_nil {l : List Int} (h : l.length = 0) : deC l = zC ∧ deE l = 2 := by
  obtain rfl := List.eq_nil_of_length_eq_zero h
  exact de_bad rfl
set_option maxRecDepth 20000 in
set_option maxHeartbeats 8000000 in
theorem rdecode_any (A : Option Addr) (c : Nat) (l : List Int) (w : World) (B : Nat) (hr : Rd .u8 w B A l) (hB : B ≤ w.heap.size) (hl : (l.length : Int) ≤ 10000) (hb : Byt l) (hc : l.length ≤ c) :
    Calls Try.prog 14 #[.slice A l.length c] w fun e w' => e = .returned (.tuple #[cv (deC l), .int .i64 (deE l)]) ∧ Below w.heap.size w w' := by
  have HRa := Lib.hid (rd_all hr hB)
  have HBy := Lib.hid hb; have HB := Lib.hid hB
  have HX0 : Hid (Bx (w.alloc (.cells #[.int .i64 0, .string { data := #[] }, .int .i64 0, .int .i64 0] 23)) w.heap.size zC) := Lib.hid (heap_alloc_new w _)
  by_cases h0 : l.length = 0
  · have HD := Lib.hid (de_nil h0)
    have HZ : Hid (Bx ((((((w.alloc (.cells #[.int .i64 0, .string { data := #[] }, .int .i64 0, .int .i64 0] 23)).setCell ⟨w.heap.size, 0, none⟩ (.int .i64 0)).setCell ⟨w.heap.size, 1, none⟩ (.string { data := #[] })).setCell ⟨w.heap.size, 2, none⟩ (.int .i64 0)).setCell ⟨w.heap.size, 3, none⟩ (.int .i64 0))) w.heap.size zC) := Lib.hid (HX0.out.put zC)
    clear hr hb hB hc
    go_enter Try.func14, Try.ntmps14
    go_wp2
    refine bodyPost_ret (by simp [results, Try.results14, go_sem]; try rfl) rfl ?_
    exact ⟨by rw [HD.out.1, HD.out.2]; rfl, by go_grown⟩
  · have h0' : ((l.length : Int) == 0) = false := by simpa using h0
    have hlt0 : 0 < l.length := by omega
    have hlt0' : (0 : Int) < l.length := by omega
    obtain ⟨b, off, d, rfl, hbB, hd, hcell⟩ := hr.at' hlt0
    have hbw : b < w.heap.size := by omega
    obtain ⟨hd0, hd1⟩ := hb.at hd
    have HDd := Lib.hid hd
    have HP := Lib.hid (two_any d · (by omega) (by omega))
    rw [Nat.add_zero] at hcell
    have HX1 := Lib.hid (HX0.out.alloc (.cells #[.int .i64 d, .string { data := #[] }, .int .i64 0, .int .i64 0] 23))
    have hsz0 : (w.alloc (.cells #[.int .i64 0, .string { data := #[] }, .int .i64 0, .int .i64 0] 23)).heap.size = w.heap.size + 1 := by simp
    have HY1 : Hid (Bx ((w.alloc (.cells #[.int .i64 0, .string { data := #[] }, .int .i64 0, .int .i64 0] 23)).alloc (.cells #[.int .i64 d, .string { data := #[] }, .int .i64 0, .int .i64 0] 23)) (w.heap.size + 1) ⟨d, [], 0, 0⟩) := Lib.hid (by have := heap_alloc_new (w.alloc (.cells #[.int .i64 0, .string { data := #[] }, .int .i64 0, .int .i64 0] 23)) (.cells #[.int .i64 d, .string { data := #[] }, .int .i64 0, .int .i64 0] 23); rw [hsz0] at this; exact this)
    have HV1 : Hid (Below w.heap.size w ((w.alloc (.cells #[.int .i64 0, .string { data := #[] }, .int .i64 0, .int .i64 0] 23)).alloc (.cells #[.int .i64 d, .string { data := #[] }, .int .i64 0, .int .i64 0] 23))) := Lib.hid (by go_grown)
    clear hr hb hB hd h0 hsz0
    generalize hR : w.heap.size + 1 = R at HY1
    have HR := Lib.hid hR
    by_cases h1 : d = 1
    · subst h1
      have HSy := Lib.hid (say_name HDd.out)
      have hlen : (l.drop 1).length = l.length - 1 := List.length_drop
      have HRd : Hid (∀ V, Below w.heap.size w V → Rd .u8 V B (some ⟨b, off + 1, none⟩) (l.drop 1)) := Lib.hid (fun V hV => (HRa.out V hV).cut 1)
      generalize l.drop 1 = m at HSy hlen HRd
      have HL := Lib.hid hlen
      clear hlen
      rw [show twoB 1 = false from rfl] at HP
      by_cases hc1 : c = 1
      · subst hc1
        have hl1 : l.length = 1 := by omega
        obtain rfl : m = [] := List.eq_nil_of_length_eq_zero (by have := HL.out; omega)
        go_enter Try.func14, Try.ntmps14
        go_wp2_with (fail)
        clear HX0
        generalize (w.alloc (.cells #[.int .i64 0, .string { data := #[] }, .int .i64 0, .int .i64 0] 23)).alloc (.cells #[.int .i64 1, .string { data := #[] }, .int .i64 0, .int .i64 0] 23) = w1 at *
        have hq1 : w.heap.size < w1.heap.size := lt_of_block HX1.out

        obtain ⟨z0, z1, z2, z3⟩ := HX1.out.at
        simp only [zC] at z0 z1 z2 z3
        have zf := frozOf' HX1.out
        obtain ⟨y0, y1, y2, y3⟩ := HY1.out.at
        simp only at y0 y1 y2 y3
        have yf := frozOf' HY1.out

        have hcv := conv (c := 0) (Rd.nil (K := .u8) (w := w1) (B := B) (A := some ⟨b, off, none⟩))
        simp only [List.length_nil] at hcv
        have HX2 : Hid (Bx (w1.setCell ⟨R, 1, none⟩ (.string (strOfNums []))) w.heap.size zC) := Lib.hid (HX1.out.other (by have := HR.out; omega) _ _)
        have HY2 : Hid (Bx (w1.setCell ⟨R, 1, none⟩ (.string (strOfNums []))) R ⟨1, [], 0, 0⟩) := Lib.hid (HY1.out.set1 _)
        have HV2 : Hid (Below w.heap.size w (w1.setCell ⟨R, 1, none⟩ (.string (strOfNums [])))) := Lib.hid (below_set HV1.out (by have := HR.out; omega) _)
        rw [hcv]
        go_wp2_with (fail)
        generalize w1.setCell ⟨R, 1, none⟩ (.string (strOfNums [])) = w2 at *
        clear z0 z1 z2 z3 zf y0 y1 y2 y3 yf

        obtain ⟨z0, z1, z2, z3⟩ := HX2.out.at
        simp only [zC] at z0 z1 z2 z3
        have zf := frozOf' HX2.out
        obtain ⟨y0, y1, y2, y3⟩ := HY2.out.at
        simp only at y0 y1 y2 y3
        have yf := frozOf' HY2.out

        (with_reducible refine (HP.out _).mono ?_); rintro e w' ⟨rfl, rfl⟩
        go_wp2_with (fail)

        have HF : Hid (FC (⟨1, ([] : List Int), 0, 0⟩ : Cm)) := Lib.hid (by rw [← HSy.out]; exact fc_say HBy.out)
        have HTl : Hid (([] : List Int).length ≤ l.length) := Lib.hid (by have := say_text (l := l); rw [HSy.out] at this; exact this)
        have hq2 : w.heap.size < w2.heap.size := lt_of_block HX2.out
        have hp2 : R < w2.heap.size := lt_of_block HY2.out
        have HEn : Hid (Calls Try.prog 8 #[.agg #[.int .i64 1, .string (strOfNums ([] : List Int)), .int .i64 0, .int .i64 0]] w2 (EA w2 (⟨1, ([] : List Int), 0, 0⟩ : Cm))) := Lib.hid (rencode_any (⟨1, ([] : List Int), 0, 0⟩ : Cm) HF.out (by have := HTl.out; show ((([] : List Int).length : Nat) : Int) ≤ 100000; omega) w2)
        (with_reducible refine HEn.out.mono ?_); rintro e w3 ⟨lm, A3, c3, HL3, rfl, HO3, HB3⟩
        have HX3 := Lib.hid (HX2.out.of HB3.out hq2)
        have HY3 := Lib.hid (HY2.out.of HB3.out hp2)
        have HV3 : Hid (Below w.heap.size w w3) := Lib.hid (HV2.out.trans (HB3.out.mono (Nat.le_of_lt hq2)))
        clear HEn z0 z1 z2 z3 zf y0 y1 y2 y3 yf
        obtain ⟨z0, z1, z2, z3⟩ := HX3.out.at
        simp only [zC] at z0 z1 z2 z3
        have zf := frozOf' HX3.out
        obtain ⟨y0, y1, y2, y3⟩ := HY3.out.at
        simp only at y0 y1 y2 y3
        have HZn : Hid (Bx ((((w3.setCell ⟨w.heap.size, 0, none⟩ (.int .i64 0)).setCell ⟨w.heap.size, 1, none⟩ (.string { data := #[] })).setCell ⟨w.heap.size, 2, none⟩ (.int .i64 0)).setCell ⟨w.heap.size, 3, none⟩ (.int .i64 0)) w.heap.size zC) := Lib.hid (HX3.out.put zC)
        have HVn : Hid (Below w.heap.size w ((((w3.setCell ⟨w.heap.size, 0, none⟩ (.int .i64 0)).setCell ⟨w.heap.size, 1, none⟩ (.string { data := #[] })).setCell ⟨w.heap.size, 2, none⟩ (.int .i64 0)).setCell ⟨w.heap.size, 3, none⟩ (.int .i64 0))) := Lib.hid (below_put HV3.out (Nat.le_refl _) _ _ _ _)
        cases hr : rtB (⟨1, ([] : List Int), 0, 0⟩ : Cm) with
        | false =>
          have hE : enE (⟨1, ([] : List Int), 0, 0⟩ : Cm) = 1 := by simp [enE, hr]
          have HD : Hid (deC l = zC ∧ deE l = 2) := Lib.hid (de_bad (by rw [HSy.out]; exact hr))
          rw [hE]
          clear hE hr
          go_wp2
          obtain ⟨q0, q1, q2, q3⟩ := HZn.out.at
          refine bodyPost_ret (by simp [results, Try.results14, go_sem, q0, q1, q2, q3]; try rfl) rfl ?_
          exact ⟨by rw [HD.out.1, HD.out.2], HVn.out⟩
        | true =>
          have hE : enE (⟨1, ([] : List Int), 0, 0⟩ : Cm) = 0 := by simp [enE, hr]
          have hL : enL (⟨1, ([] : List Int), 0, 0⟩ : Cm) = ld (⟨1, ([] : List Int), 0, 0⟩ : Cm) := by simp [enL, hr]
          have HLm : Hid (lm = ld (⟨1, ([] : List Int), 0, 0⟩ : Cm)) := Lib.hid (HL3.out.trans hL)
          have HRr : Hid (rtB (⟨1, ([] : List Int), 0, 0⟩ : Cm) = true) := Lib.hid hr
          rw [hE]
          clear hE hL hr
          obtain ⟨x, hx⟩ := bex (lm = l)
          have hcv1 := conv c3 (own_rd HO3.out)
          have hcv2 := conv 1 (HRa.out _ HV3.out)
          rw [hl1] at hcv2
          have hbq := beq_str (by rw [HLm.out]; exact ld_byt HF.out HRr.out) HBy.out x hx
          have hbn : ((strOfNums lm).toList != (strOfNums l).toList) = !x := by rw [bne, hbq]
          have HXx := Lib.hid hx; clear hx
          cases x with
          | false =>
            have HD : Hid (deC l = zC ∧ deE l = 2) := Lib.hid (de_other (by
              rw [HSy.out, ← HLm.out]
              intro e
              have := HXx.out.2 e
              cases this))
            go_wp2
            obtain ⟨q0, q1, q2, q3⟩ := HZn.out.at
            refine bodyPost_ret (by simp [results, Try.results14, go_sem, q0, q1, q2, q3]; try rfl) rfl ?_
            exact ⟨by rw [HD.out.1, HD.out.2], HVn.out⟩
          | true =>
            have HD : Hid (deC l = say l ∧ deE l = 0) := Lib.hid (de_good (by rw [HSy.out]; exact HRr.out) (by rw [HSy.out, ← HLm.out]; exact HXx.out.1 rfl))
            have HZs : Hid (Bx ((((w3.setCell ⟨w.heap.size, 0, none⟩ (.int .i64 1)).setCell ⟨w.heap.size, 1, none⟩ (.string (strOfNums ([] : List Int)))).setCell ⟨w.heap.size, 2, none⟩ (.int .i64 0)).setCell ⟨w.heap.size, 3, none⟩ (.int .i64 0)) w.heap.size (⟨1, ([] : List Int), 0, 0⟩ : Cm)) := Lib.hid (HX3.out.put (⟨1, ([] : List Int), 0, 0⟩ : Cm))
            go_wp2
            obtain ⟨q0, q1, q2, q3⟩ := HZs.out.at
            simp only at q0 q1 q2 q3
            refine bodyPost_ret (by simp [results, Try.results14, go_sem, q0, q1, q2, q3]; try rfl) rfl ?_
            exact ⟨by rw [HD.out.1, HD.out.2, HSy.out], below_put HV3.out (Nat.le_refl _) _ _ _ _⟩
      · 
        go_enter Try.func14, Try.ntmps14
        go_wp2_with (fail)
        clear HX0
        generalize (w.alloc (.cells #[.int .i64 0, .string { data := #[] }, .int .i64 0, .int .i64 0] 23)).alloc (.cells #[.int .i64 1, .string { data := #[] }, .int .i64 0, .int .i64 0] 23) = w1 at *
        have hq1 : w.heap.size < w1.heap.size := lt_of_block HX1.out

        obtain ⟨z0, z1, z2, z3⟩ := HX1.out.at
        simp only [zC] at z0 z1 z2 z3
        have zf := frozOf' HX1.out
        obtain ⟨y0, y1, y2, y3⟩ := HY1.out.at
        simp only at y0 y1 y2 y3
        have yf := frozOf' HY1.out

        have hcv := conv (c := c - 1) (HRd.out _ HV1.out)
        rw [HL.out] at hcv
        have HX2 : Hid (Bx (w1.setCell ⟨R, 1, none⟩ (.string (strOfNums m))) w.heap.size zC) := Lib.hid (HX1.out.other (by have := HR.out; omega) _ _)
        have HY2 : Hid (Bx (w1.setCell ⟨R, 1, none⟩ (.string (strOfNums m))) R ⟨1, m, 0, 0⟩) := Lib.hid (HY1.out.set1 _)
        have HV2 : Hid (Below w.heap.size w (w1.setCell ⟨R, 1, none⟩ (.string (strOfNums m)))) := Lib.hid (below_set HV1.out (by have := HR.out; omega) _)
        rw [hcv]
        go_wp2_with (fail)
        generalize w1.setCell ⟨R, 1, none⟩ (.string (strOfNums m)) = w2 at *
        clear z0 z1 z2 z3 zf y0 y1 y2 y3 yf

        obtain ⟨z0, z1, z2, z3⟩ := HX2.out.at
        simp only [zC] at z0 z1 z2 z3
        have zf := frozOf' HX2.out
        obtain ⟨y0, y1, y2, y3⟩ := HY2.out.at
        simp only at y0 y1 y2 y3
        have yf := frozOf' HY2.out

        (with_reducible refine (HP.out _).mono ?_); rintro e w' ⟨rfl, rfl⟩
        go_wp2_with (fail)

        have HF : Hid (FC (⟨1, m, 0, 0⟩ : Cm)) := Lib.hid (by rw [← HSy.out]; exact fc_say HBy.out)
        have HTl : Hid (m.length ≤ l.length) := Lib.hid (by have := say_text (l := l); rw [HSy.out] at this; exact this)
        have hq2 : w.heap.size < w2.heap.size := lt_of_block HX2.out
        have hp2 : R < w2.heap.size := lt_of_block HY2.out
        have HEn : Hid (Calls Try.prog 8 #[.agg #[.int .i64 1, .string (strOfNums m), .int .i64 0, .int .i64 0]] w2 (EA w2 (⟨1, m, 0, 0⟩ : Cm))) := Lib.hid (rencode_any (⟨1, m, 0, 0⟩ : Cm) HF.out (by have := HTl.out; show ((m.length : Nat) : Int) ≤ 100000; omega) w2)
        (with_reducible refine HEn.out.mono ?_); rintro e w3 ⟨lm, A3, c3, HL3, rfl, HO3, HB3⟩
        have HX3 := Lib.hid (HX2.out.of HB3.out hq2)
        have HY3 := Lib.hid (HY2.out.of HB3.out hp2)
        have HV3 : Hid (Below w.heap.size w w3) := Lib.hid (HV2.out.trans (HB3.out.mono (Nat.le_of_lt hq2)))
        clear HEn z0 z1 z2 z3 zf y0 y1 y2 y3 yf
        obtain ⟨z0, z1, z2, z3⟩ := HX3.out.at
        simp only [zC] at z0 z1 z2 z3
        have zf := frozOf' HX3.out
        obtain ⟨y0, y1, y2, y3⟩ := HY3.out.at
        simp only at y0 y1 y2 y3
        have HZn : Hid (Bx ((((w3.setCell ⟨w.heap.size, 0, none⟩ (.int .i64 0)).setCell ⟨w.heap.size, 1, none⟩ (.string { data := #[] })).setCell ⟨w.heap.size, 2, none⟩ (.int .i64 0)).setCell ⟨w.heap.size, 3, none⟩ (.int .i64 0)) w.heap.size zC) := Lib.hid (HX3.out.put zC)
        have HVn : Hid (Below w.heap.size w ((((w3.setCell ⟨w.heap.size, 0, none⟩ (.int .i64 0)).setCell ⟨w.heap.size, 1, none⟩ (.string { data := #[] })).setCell ⟨w.heap.size, 2, none⟩ (.int .i64 0)).setCell ⟨w.heap.size, 3, none⟩ (.int .i64 0))) := Lib.hid (below_put HV3.out (Nat.le_refl _) _ _ _ _)
        cases hr : rtB (⟨1, m, 0, 0⟩ : Cm) with
        | false =>
          have hE : enE (⟨1, m, 0, 0⟩ : Cm) = 1 := by simp [enE, hr]
          have HD : Hid (deC l = zC ∧ deE l = 2) := Lib.hid (de_bad (by rw [HSy.out]; exact hr))
          rw [hE]
          clear hE hr
          go_wp2
          obtain ⟨q0, q1, q2, q3⟩ := HZn.out.at
          refine bodyPost_ret (by simp [results, Try.results14, go_sem, q0, q1, q2, q3]; try rfl) rfl ?_
          exact ⟨by rw [HD.out.1, HD.out.2], HVn.out⟩
        | true =>
          have hE : enE (⟨1, m, 0, 0⟩ : Cm) = 0 := by simp [enE, hr]
          have hL : enL (⟨1, m, 0, 0⟩ : Cm) = ld (⟨1, m, 0, 0⟩ : Cm) := by simp [enL, hr]
          have HLm : Hid (lm = ld (⟨1, m, 0, 0⟩ : Cm)) := Lib.hid (HL3.out.trans hL)
          have HRr : Hid (rtB (⟨1, m, 0, 0⟩ : Cm) = true) := Lib.hid hr
          rw [hE]
          clear hE hL hr
          obtain ⟨x, hx⟩ := bex (lm = l)
          have hcv1 := conv c3 (own_rd HO3.out)
          have hcv2 := conv c (HRa.out _ HV3.out)
          have hbq := beq_str (by rw [HLm.out]; exact ld_byt HF.out HRr.out) HBy.out x hx
          have hbn : ((strOfNums lm).toList != (strOfNums l).toList) = !x := by rw [bne, hbq]
          have HXx := Lib.hid hx; clear hx
          cases x with
          | false =>
            have HD : Hid (deC l = zC ∧ deE l = 2) := Lib.hid (de_other (by
              rw [HSy.out, ← HLm.out]
              intro e
              have := HXx.out.2 e
              cases this))
            go_wp2
            obtain ⟨q0, q1, q2, q3⟩ := HZn.out.at
            refine bodyPost_ret (by simp [results, Try.results14, go_sem, q0, q1, q2, q3]; try rfl) rfl ?_
            exact ⟨by rw [HD.out.1, HD.out.2], HVn.out⟩
          | true =>
            have HD : Hid (deC l = say l ∧ deE l = 0) := Lib.hid (de_good (by rw [HSy.out]; exact HRr.out) (by rw [HSy.out, ← HLm.out]; exact HXx.out.1 rfl))
            have HZs : Hid (Bx ((((w3.setCell ⟨w.heap.size, 0, none⟩ (.int .i64 1)).setCell ⟨w.heap.size, 1, none⟩ (.string (strOfNums m))).setCell ⟨w.heap.size, 2, none⟩ (.int .i64 0)).setCell ⟨w.heap.size, 3, none⟩ (.int .i64 0)) w.heap.size (⟨1, m, 0, 0⟩ : Cm)) := Lib.hid (HX3.out.put (⟨1, m, 0, 0⟩ : Cm))
            go_wp2
            obtain ⟨q0, q1, q2, q3⟩ := HZs.out.at
            simp only at q0 q1 q2 q3
            refine bodyPost_ret (by simp [results, Try.results14, go_sem, q0, q1, q2, q3]; try rfl) rfl ?_
            exact ⟨by rw [HD.out.1, HD.out.2, HSy.out], below_put HV3.out (Nat.le_refl _) _ _ _ _⟩
    · have h1' : (d == 1) = false := by simpa using h1
      cases h2 : twoB d with
      | true =>
        have HSy := Lib.hid (say_two HDd.out h2)
        rw [h2] at HP
        generalize hv1 : riV (ri l 1) = v1 at HSy
        generalize hk1 : riK 1 (ri l 1) = k1 at HSy
        have hk1b : k1 ≤ 9223372036854775807 := by rw [← hk1]; exact riK_in HBy.out (by omega) (by omega)
        have hv1b : -9223372036854775808 ≤ v1 ∧ v1 ≤ 9223372036854775807 := by rw [← hv1]; exact riV_in HBy.out _
        generalize hv2 : riV (ri l k1) = v2 at HSy
        have hv2b : -9223372036854775808 ≤ v2 ∧ v2 ≤ 9223372036854775807 := by rw [← hv2]; exact riV_in HBy.out _
        obtain ⟨hv1l, hv1h⟩ := hv1b
        obtain ⟨hv2l, hv2h⟩ := hv2b
        have R1 : Hid (∀ V, Below w.heap.size w V → Calls Try.prog 22 #[.slice (some ⟨b, off, none⟩) l.length c, .int .i64 1] V fun e w' => ∃ er, e = .returned (.tuple #[.int .i64 v1, .int .i64 k1, .int .i64 er]) ∧ V = w') := Lib.hid (fun V hV => by have := rri_say (some ⟨b, off, none⟩) c l 1 V B (HRa.out _ hV) (by omega) HBy.out (by omega); rwa [hv1, hk1] at this)
        have R2 : Hid (∀ V, Below w.heap.size w V → Calls Try.prog 22 #[.slice (some ⟨b, off, none⟩) l.length c, .int .i64 k1] V fun e w' => ∃ k2 er, e = .returned (.tuple #[.int .i64 v2, .int .i64 k2, .int .i64 er]) ∧ V = w') := Lib.hid (fun V hV => (rri_say (some ⟨b, off, none⟩) c l k1 V B (HRa.out _ hV) (by omega) HBy.out (by omega)).mono (by rintro e w' ⟨er, rfl, rfl⟩; rw [hv2]; exact ⟨_, er, rfl, rfl⟩))
        clear h2 hv1 hk1 hv2 h1
        go_enter Try.func14, Try.ntmps14
        go_wp2_with (fail)
        clear HX0
        generalize (w.alloc (.cells #[.int .i64 0, .string { data := #[] }, .int .i64 0, .int .i64 0] 23)).alloc (.cells #[.int .i64 d, .string { data := #[] }, .int .i64 0, .int .i64 0] 23) = w1 at *
        have hq1 : w.heap.size < w1.heap.size := lt_of_block HX1.out

        obtain ⟨z0, z1, z2, z3⟩ := HX1.out.at
        simp only [zC] at z0 z1 z2 z3
        have zf := frozOf' HX1.out
        obtain ⟨y0, y1, y2, y3⟩ := HY1.out.at
        simp only at y0 y1 y2 y3
        have yf := frozOf' HY1.out
        (with_reducible refine (HP.out _).mono ?_); rintro e w' ⟨rfl, rfl⟩
        have HX2 : Hid (Bx ((w1.setCell ⟨R, 2, none⟩ (.int .i64 v1)).setCell ⟨R, 3, none⟩ (.int .i64 v2)) w.heap.size zC) := Lib.hid ((HX1.out.other (by have := HR.out; omega) _ _).other (by have := HR.out; omega) _ _)
        have HY2 : Hid (Bx ((w1.setCell ⟨R, 2, none⟩ (.int .i64 v1)).setCell ⟨R, 3, none⟩ (.int .i64 v2)) R ⟨d, [], v1, v2⟩) := Lib.hid ((HY1.out.set2 _).set3 _)
        have HV2 : Hid (Below w.heap.size w ((w1.setCell ⟨R, 2, none⟩ (.int .i64 v1)).setCell ⟨R, 3, none⟩ (.int .i64 v2))) := Lib.hid (below_set (below_set HV1.out (by have := HR.out; omega) _) (by have := HR.out; omega) _)
        go_wp2_with (first
          | ((with_reducible refine (R1.out _ HV1.out).mono ?_); rintro e w3 ⟨er, rfl, rfl⟩)
          | ((with_reducible refine (R2.out _ HV1.out).mono ?_); rintro e w3 ⟨k2, er2, rfl, rfl⟩))
        generalize (w1.setCell ⟨R, 2, none⟩ (.int .i64 v1)).setCell ⟨R, 3, none⟩ (.int .i64 v2) = w2 at *
        have HF : Hid (FC (⟨d, ([] : List Int), v1, v2⟩ : Cm)) := Lib.hid (by rw [← HSy.out]; exact fc_say HBy.out)
        have HTl : Hid (([] : List Int).length ≤ l.length) := Lib.hid (by have := say_text (l := l); rw [HSy.out] at this; exact this)
        have hq2 : w.heap.size < w2.heap.size := lt_of_block HX2.out
        have hp2 : R < w2.heap.size := lt_of_block HY2.out
        have HEn : Hid (Calls Try.prog 8 #[.agg #[.int .i64 d, .string (strOfNums ([] : List Int)), .int .i64 v1, .int .i64 v2]] w2 (EA w2 (⟨d, ([] : List Int), v1, v2⟩ : Cm))) := Lib.hid (rencode_any (⟨d, ([] : List Int), v1, v2⟩ : Cm) HF.out (by have := HTl.out; show ((([] : List Int).length : Nat) : Int) ≤ 100000; omega) w2)
        (with_reducible refine HEn.out.mono ?_); rintro e w3 ⟨lm, A3, c3, HL3, rfl, HO3, HB3⟩
        have HX3 := Lib.hid (HX2.out.of HB3.out hq2)
        have HY3 := Lib.hid (HY2.out.of HB3.out hp2)
        have HV3 : Hid (Below w.heap.size w w3) := Lib.hid (HV2.out.trans (HB3.out.mono (Nat.le_of_lt hq2)))
        clear HEn z0 z1 z2 z3 zf y0 y1 y2 y3 yf
        obtain ⟨z0, z1, z2, z3⟩ := HX3.out.at
        simp only [zC] at z0 z1 z2 z3
        have zf := frozOf' HX3.out
        obtain ⟨y0, y1, y2, y3⟩ := HY3.out.at
        simp only at y0 y1 y2 y3
        have HZn : Hid (Bx ((((w3.setCell ⟨w.heap.size, 0, none⟩ (.int .i64 0)).setCell ⟨w.heap.size, 1, none⟩ (.string { data := #[] })).setCell ⟨w.heap.size, 2, none⟩ (.int .i64 0)).setCell ⟨w.heap.size, 3, none⟩ (.int .i64 0)) w.heap.size zC) := Lib.hid (HX3.out.put zC)
        have HVn : Hid (Below w.heap.size w ((((w3.setCell ⟨w.heap.size, 0, none⟩ (.int .i64 0)).setCell ⟨w.heap.size, 1, none⟩ (.string { data := #[] })).setCell ⟨w.heap.size, 2, none⟩ (.int .i64 0)).setCell ⟨w.heap.size, 3, none⟩ (.int .i64 0))) := Lib.hid (below_put HV3.out (Nat.le_refl _) _ _ _ _)
        cases hr : rtB (⟨d, ([] : List Int), v1, v2⟩ : Cm) with
        | false =>
          have hE : enE (⟨d, ([] : List Int), v1, v2⟩ : Cm) = 1 := by simp [enE, hr]
          have HD : Hid (deC l = zC ∧ deE l = 2) := Lib.hid (de_bad (by rw [HSy.out]; exact hr))
          rw [hE]
          clear hE hr
          go_wp2
          obtain ⟨q0, q1, q2, q3⟩ := HZn.out.at
          refine bodyPost_ret (by simp [results, Try.results14, go_sem, q0, q1, q2, q3]; try rfl) rfl ?_
          exact ⟨by rw [HD.out.1, HD.out.2], HVn.out⟩
        | true =>
          have hE : enE (⟨d, ([] : List Int), v1, v2⟩ : Cm) = 0 := by simp [enE, hr]
          have hL : enL (⟨d, ([] : List Int), v1, v2⟩ : Cm) = ld (⟨d, ([] : List Int), v1, v2⟩ : Cm) := by simp [enL, hr]
          have HLm : Hid (lm = ld (⟨d, ([] : List Int), v1, v2⟩ : Cm)) := Lib.hid (HL3.out.trans hL)
          have HRr : Hid (rtB (⟨d, ([] : List Int), v1, v2⟩ : Cm) = true) := Lib.hid hr
          rw [hE]
          clear hE hL hr
          obtain ⟨x, hx⟩ := bex (lm = l)
          have hcv1 := conv c3 (own_rd HO3.out)
          have hcv2 := conv c (HRa.out _ HV3.out)
          have hbq := beq_str (by rw [HLm.out]; exact ld_byt HF.out HRr.out) HBy.out x hx
          have hbn : ((strOfNums lm).toList != (strOfNums l).toList) = !x := by rw [bne, hbq]
          have HXx := Lib.hid hx; clear hx
          cases x with
          | false =>
            have HD : Hid (deC l = zC ∧ deE l = 2) := Lib.hid (de_other (by
              rw [HSy.out, ← HLm.out]
              intro e
              have := HXx.out.2 e
              cases this))
            go_wp2
            obtain ⟨q0, q1, q2, q3⟩ := HZn.out.at
            refine bodyPost_ret (by simp [results, Try.results14, go_sem, q0, q1, q2, q3]; try rfl) rfl ?_
            exact ⟨by rw [HD.out.1, HD.out.2], HVn.out⟩
          | true =>
            have HD : Hid (deC l = say l ∧ deE l = 0) := Lib.hid (de_good (by rw [HSy.out]; exact HRr.out) (by rw [HSy.out, ← HLm.out]; exact HXx.out.1 rfl))
            have HZs : Hid (Bx ((((w3.setCell ⟨w.heap.size, 0, none⟩ (.int .i64 d)).setCell ⟨w.heap.size, 1, none⟩ (.string (strOfNums ([] : List Int)))).setCell ⟨w.heap.size, 2, none⟩ (.int .i64 v1)).setCell ⟨w.heap.size, 3, none⟩ (.int .i64 v2)) w.heap.size (⟨d, ([] : List Int), v1, v2⟩ : Cm)) := Lib.hid (HX3.out.put (⟨d, ([] : List Int), v1, v2⟩ : Cm))
            go_wp2
            obtain ⟨q0, q1, q2, q3⟩ := HZs.out.at
            simp only at q0 q1 q2 q3
            refine bodyPost_ret (by simp [results, Try.results14, go_sem, q0, q1, q2, q3]; try rfl) rfl ?_
            exact ⟨by rw [HD.out.1, HD.out.2, HSy.out], below_put HV3.out (Nat.le_refl _) _ _ _ _⟩
      | false =>
        have HSy := Lib.hid (say_else HDd.out h2 h1)
        rw [h2] at HP
        clear h2 h1
        go_enter Try.func14, Try.ntmps14
        go_wp2_with (fail)
        clear HX0
        generalize (w.alloc (.cells #[.int .i64 0, .string { data := #[] }, .int .i64 0, .int .i64 0] 23)).alloc (.cells #[.int .i64 d, .string { data := #[] }, .int .i64 0, .int .i64 0] 23) = w2 at *
        have hq1 : w.heap.size < w2.heap.size := lt_of_block HX1.out
        have HX2 := HX1
        have HY2 := HY1
        have HV2 := HV1

        obtain ⟨z0, z1, z2, z3⟩ := HX2.out.at
        simp only [zC] at z0 z1 z2 z3
        have zf := frozOf' HX2.out
        obtain ⟨y0, y1, y2, y3⟩ := HY2.out.at
        simp only at y0 y1 y2 y3
        have yf := frozOf' HY2.out
        (with_reducible refine (HP.out _).mono ?_); rintro e w' ⟨rfl, rfl⟩
        go_wp2_with (fail)
        have HF : Hid (FC (⟨d, ([] : List Int), 0, 0⟩ : Cm)) := Lib.hid (by rw [← HSy.out]; exact fc_say HBy.out)
        have HTl : Hid (([] : List Int).length ≤ l.length) := Lib.hid (by have := say_text (l := l); rw [HSy.out] at this; exact this)
        have hq2 : w.heap.size < w2.heap.size := lt_of_block HX2.out
        have hp2 : R < w2.heap.size := lt_of_block HY2.out
        have HEn : Hid (Calls Try.prog 8 #[.agg #[.int .i64 d, .string (strOfNums ([] : List Int)), .int .i64 0, .int .i64 0]] w2 (EA w2 (⟨d, ([] : List Int), 0, 0⟩ : Cm))) := Lib.hid (rencode_any (⟨d, ([] : List Int), 0, 0⟩ : Cm) HF.out (by have := HTl.out; show ((([] : List Int).length : Nat) : Int) ≤ 100000; omega) w2)
        (with_reducible refine HEn.out.mono ?_); rintro e w3 ⟨lm, A3, c3, HL3, rfl, HO3, HB3⟩
        have HX3 := Lib.hid (HX2.out.of HB3.out hq2)
        have HY3 := Lib.hid (HY2.out.of HB3.out hp2)
        have HV3 : Hid (Below w.heap.size w w3) := Lib.hid (HV2.out.trans (HB3.out.mono (Nat.le_of_lt hq2)))
        clear HEn z0 z1 z2 z3 zf y0 y1 y2 y3 yf
        obtain ⟨z0, z1, z2, z3⟩ := HX3.out.at
        simp only [zC] at z0 z1 z2 z3
        have zf := frozOf' HX3.out
        obtain ⟨y0, y1, y2, y3⟩ := HY3.out.at
        simp only at y0 y1 y2 y3
        have HZn : Hid (Bx ((((w3.setCell ⟨w.heap.size, 0, none⟩ (.int .i64 0)).setCell ⟨w.heap.size, 1, none⟩ (.string { data := #[] })).setCell ⟨w.heap.size, 2, none⟩ (.int .i64 0)).setCell ⟨w.heap.size, 3, none⟩ (.int .i64 0)) w.heap.size zC) := Lib.hid (HX3.out.put zC)
        have HVn : Hid (Below w.heap.size w ((((w3.setCell ⟨w.heap.size, 0, none⟩ (.int .i64 0)).setCell ⟨w.heap.size, 1, none⟩ (.string { data := #[] })).setCell ⟨w.heap.size, 2, none⟩ (.int .i64 0)).setCell ⟨w.heap.size, 3, none⟩ (.int .i64 0))) := Lib.hid (below_put HV3.out (Nat.le_refl _) _ _ _ _)
        cases hr : rtB (⟨d, ([] : List Int), 0, 0⟩ : Cm) with
        | false =>
          have hE : enE (⟨d, ([] : List Int), 0, 0⟩ : Cm) = 1 := by simp [enE, hr]
          have HD : Hid (deC l = zC ∧ deE l = 2) := Lib.hid (de_bad (by rw [HSy.out]; exact hr))
          rw [hE]
          clear hE hr
          go_wp2
          obtain ⟨q0, q1, q2, q3⟩ := HZn.out.at
          refine bodyPost_ret (by simp [results, Try.results14, go_sem, q0, q1, q2, q3]; try rfl) rfl ?_
          exact ⟨by rw [HD.out.1, HD.out.2], HVn.out⟩
        | true =>
          have hE : enE (⟨d, ([] : List Int), 0, 0⟩ : Cm) = 0 := by simp [enE, hr]
          have hL : enL (⟨d, ([] : List Int), 0, 0⟩ : Cm) = ld (⟨d, ([] : List Int), 0, 0⟩ : Cm) := by simp [enL, hr]
          have HLm : Hid (lm = ld (⟨d, ([] : List Int), 0, 0⟩ : Cm)) := Lib.hid (HL3.out.trans hL)
          have HRr : Hid (rtB (⟨d, ([] : List Int), 0, 0⟩ : Cm) = true) := Lib.hid hr
          rw [hE]
          clear hE hL hr
          obtain ⟨x, hx⟩ := bex (lm = l)
          have hcv1 := conv c3 (own_rd HO3.out)
          have hcv2 := conv c (HRa.out _ HV3.out)
          have hbq := beq_str (by rw [HLm.out]; exact ld_byt HF.out HRr.out) HBy.out x hx
          have hbn : ((strOfNums lm).toList != (strOfNums l).toList) = !x := by rw [bne, hbq]
          have HXx := Lib.hid hx; clear hx
          cases x with
          | false =>
            have HD : Hid (deC l = zC ∧ deE l = 2) := Lib.hid (de_other (by
              rw [HSy.out, ← HLm.out]
              intro e
              have := HXx.out.2 e
              cases this))
            go_wp2
            obtain ⟨q0, q1, q2, q3⟩ := HZn.out.at
            refine bodyPost_ret (by simp [results, Try.results14, go_sem, q0, q1, q2, q3]; try rfl) rfl ?_
            exact ⟨by rw [HD.out.1, HD.out.2], HVn.out⟩
          | true =>
            have HD : Hid (deC l = say l ∧ deE l = 0) := Lib.hid (de_good (by rw [HSy.out]; exact HRr.out) (by rw [HSy.out, ← HLm.out]; exact HXx.out.1 rfl))
            have HZs : Hid (Bx ((((w3.setCell ⟨w.heap.size, 0, none⟩ (.int .i64 d)).setCell ⟨w.heap.size, 1, none⟩ (.string (strOfNums ([] : List Int)))).setCell ⟨w.heap.size, 2, none⟩ (.int .i64 0)).setCell ⟨w.heap.size, 3, none⟩ (.int .i64 0)) w.heap.size (⟨d, ([] : List Int), 0, 0⟩ : Cm)) := Lib.hid (HX3.out.put (⟨d, ([] : List Int), 0, 0⟩ : Cm))
            go_wp2
            obtain ⟨q0, q1, q2, q3⟩ := HZs.out.at
            simp only at q0 q1 q2 q3
            refine bodyPost_ret (by simp [results, Try.results14, go_sem, q0, q1, q2, q3]; try rfl) rfl ?_
            exact ⟨by rw [HD.out.1, HD.out.2, HSy.out], below_put HV3.out (Nat.le_refl _) _ _ _ _⟩
end Go.Proofs.Yteiknfhoggoapaa.Con
