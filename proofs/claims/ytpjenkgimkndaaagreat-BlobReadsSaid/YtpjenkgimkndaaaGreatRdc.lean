/-
  Contracts of the program's reader: rows of effects, lines, prizes, truths and auras.
-/
import Derived.Test.YtpjenkgimkndaaaGreatRdb
namespace Go.Proofs.YtpjenkgimkndaaaGreat.Con
open Go.RowKit Go.Maps Pm Mth

/-- Behind an append onto a row of one's own, which lies behind N. -/
theorem tn_app {α : Type} {E : El α} {P : Nat} {w w1 w2 : World} {A : Option Addr} {n c : Nat} {l : List α} (h : Tn P w w1) (ho : OW E w1 w.heap.size (.slice A n c) l) (hg : w1.grownBy w2 (Value.slice A n c).ownBlock) : Tn P w w2 :=
  ⟨hg.os.trans h.os, hg.tape.trans h.tape, hg.output.trans h.output, Nat.le_trans h.size hg.size, fun k hk hn => (hg.block k (Nat.lt_of_lt_of_le hk h.size) (fun e => by have := (ho.blk e.symm).1; omega)).trans (h.block k hk hn)⟩
set_option maxRecDepth 20000 in
set_option maxHeartbeats 8000000 in
theorem rows_ef (s0 : St) (w : World) (B P : Nat) (h : RS w B P s0) (hl : s0.l.length ≤ 400000) : Calls Tryz.prog 105 #[pt P, .func (.func 106) #[pt P] #[]] w fun e w' => ∃ (out : List Ef) (A : Option Addr) (c : Nat), e = .returned (.slice A out.length c) ∧ Hid (AW ef w' (fun b => b < w.heap.size) A out) ∧ Hid (∀ a ∈ out, FrT a w' (fun b => b < w.heap.size)) ∧ Rn (pRows pEf) B P w s0 out w' := by
  have hP := h.lt
  have HS0 := Lib.hid h; have HL0 := Lib.hid hl
  clear h hl
  go_enter Tryz.func105, Tryz.ntmps105
  go_wp2_with (fail)
  (with_reducible refine (num_any s0 _ B P HS0.out).mono ?_); rintro e w1 ⟨n, rfl, s1, HR1, HS1, HT1⟩
  by_cases hn : n < 0
  · have Hn := Lib.hid hn
    obtain ⟨A, c, hz, hy, hP1⟩ := HS1.out.cells
    go_wp2
    generalize hw : w1.setCell ⟨P, 1, none⟩ (.bool true) = w2 at *
    have HS2 : Hid (RS w2 B P ⟨s1.l, true⟩) := Lib.hid (hw ▸ HS1.out.fail)
    have HT2 : Hid (Tn P w w2) := Lib.hid (hw ▸ tn_trans HT1.out (tn_set w1 1 _))
    clear hw hz hy
    go_loopg [6, 16] 0 (fun g s6 s16 wr => g = 0 ∧ s6 = .slice none 0 0 ∧ s16 = .int .i64 0 ∧ Hid (wr = w2))
    case atStart => exact ⟨rfl, rfl, rfl, Lib.hid rfl⟩
    case round =>
      obtain ⟨rfl, rfl, rfl, HW⟩ := hrel
      have hn' : decide (0 < n) = false := by have := Hn.out; simp; omega
      go_wp2
      go_ret
      refine ⟨[], none, 0, rfl, Lib.hid (.inl rfl), Lib.hid (by simp), ⟨⟨s1.l, true⟩, Lib.hid (HR1.out.rows_neg Hn.out _), Lib.hid ?_, Lib.hid ?_⟩⟩
      · rw [HW.out]; exact HS2.out
      · rw [HW.out]; exact HT2.out
  · obtain ⟨K, rfl⟩ := Int.eq_ofNat_of_zero_le (show 0 ≤ n by omega)
    have hn' : decide ((K : Int) < 0) = false := by simp
    clear hn
    have HL1 : Hid (s1.l.length ≤ 400000) := Lib.hid (Nat.le_trans HR1.out.2 HL0.out)
    go_wp2_with (fail)
    go_loopg [6, 16] K (fun g s6 s16 wr => ∃ (k : Nat) (out : List Ef) (A1 : Option Addr) (c1 : Nat) (sk : St), k ≤ K ∧ g = K - k ∧ s6 = .slice A1 out.length c1 ∧ s16 = .int .i64 (k : Int) ∧ (k : Int) ≤ 400000 ∧ Hid (GR ef FrT w.heap.size wr A1 c1 out) ∧ Hid (RS wr B P sk) ∧ Hid (Tn P w wr) ∧ Hid (Rp (pMany pEf k) s1 out sk) ∧ Hid (k = out.length ∧ out.length ≤ s1.l.length) ∧ Hid (k = 0 ∨ sk.f = false) ∧ Hid (sk.l.length ≤ 400000))
    case atStart => exact ⟨0, [], none, 0, s1, by omega, rfl, rfl, rfl, by omega, Lib.hid (GR.nil _), HS1, HT1, Lib.hid (Rp.pure _ _), Lib.hid ⟨rfl, by simp⟩, Lib.hid (.inl rfl), HL1⟩
    case round =>
      obtain ⟨k, out, A1, c1, sk, hk, rfl, rfl, rfl, hkb, HG, HSk, HTk, HRk, HKo, HKf, HLk⟩ := hrel
      by_cases hlt : k < K
      · have hkl' : (k : Int) < K := by omega
        have hPw : P < wr.heap.size := HSk.out.lt
        go_wp2_with (fail)
        (with_reducible refine (ef_take sk _ B P HSk.out).mono ?_); rintro e w2 ⟨x, rfl, s2, HR2, HS2, HT2⟩
        obtain ⟨l2, f2⟩ := s2
        cases f2 with
        | true =>
          obtain ⟨A, c, hz, hy, hP2⟩ := HS2.out.cells
          go_wp2
          go_ret
          exact ⟨[], none, 0, rfl, Lib.hid (.inl rfl), Lib.hid (by simp), rn_of (HR1.out.rows (Rp.stop (HRk.out.snoc HR2.out) rfl (by omega))) (HS2.out.alloc _) (tn_alloc (tn_trans HTk.out HT2.out) _)⟩
        | false =>
          obtain ⟨A, c, hz, hy, hP2⟩ := HS2.out.cells
          have HM : Hid (∃ r, pMany pEf (k + 1) s1.l = some (r, l2) ∧ r.length = out.length + 1) := Lib.hid ⟨_, ((HRk.out.snoc HR2.out).ok rfl).2, by simp⟩
          have HB := Lib.hid (many_len (eatsEf.less (d := 1) (by omega)) HM.out.choose_spec.1)
          have hout : out.length + 1 ≤ 400000 := by have := HB.out; have := HM.out.choose_spec.2; have := HL1.out; omega
          have HG2 : Hid (GR ef FrT w.heap.size w2 A1 c1 out) := Lib.hid (HG.out.turn frT_stab HT2.out hP)
          have hww : w.heap.size ≤ wr.heap.size := HTk.out.size
          have hw2 : wr.heap.size ≤ w2.heap.size := HT2.out.size
          have HG2 : Hid (GR ef FrT w.heap.size (w2.alloc (.cells #[.int .i64 x.kind, .int .i64 x.amount, .int .i64 x.aura] 71)) A1 c1 out) := Lib.hid (HG2.out.turn (P := P) frT_stab (tn_alloc (tn_refl P w2) _) hP)
          have HGp : Hid (GR ef FrT w.heap.size ((w2.alloc (.cells #[.int .i64 x.kind, .int .i64 x.amount, .int .i64 x.aura] 71)).alloc (.cells #[.int .i64 x.kind, .int .i64 x.amount, .int .i64 x.aura] 71)) A1 c1 out) := Lib.hid (HG2.out.turn (P := P) frT_stab (tn_alloc (tn_refl P _) _) hP)
          have HAp : Hid (OW ef ((w2.alloc (.cells #[.int .i64 x.kind, .int .i64 x.amount, .int .i64 x.aura] 71)).alloc (.cells #[.int .i64 x.kind, .int .i64 x.amount, .int .i64 x.aura] 71)) w.heap.size (.slice A1 out.length c1) out) := Lib.hid HGp.out.own
          go_wp2_with (at_builtin; refine Con.wpList_app ef rfl 50 rfl (.tmp 24) (.tmp 26) rfl w.heap.size (w2.heap.size + 2) (.slice A1 out.length c1) out [x] (some ⟨w2.heap.size + 1, 0, none⟩) 1 1 rfl rfl rfl HAp.out (rw_one1 rfl (by simp) (by simp)) (by simp; omega) (by simp; omega) ?_; intro A3 c3 w3 lm HLm HO3 HG3 HW3)
          go_roundg (K - (k + 1))
          case measure => omega
          case rel =>
            have hP3 : P < w.heap.size := hP
            have hRS : RS w3 B P ⟨l2, false⟩ := ((HS2.out.alloc _).alloc _).grown HG3.out (N := w.heap.size) (fun b hb => (HGp.out.own.blk hb).1) hP3
            have hTn : Tn P w w3 := tn_app (tn_alloc (tn_alloc (tn_trans HTk.out HT2.out) _) _) HGp.out.own HG3.out
            exact ⟨k + 1, lm, A3, c3, ⟨l2, false⟩, by omega, rfl, rfl, by go_num, (by have h1 := HKo.out; omega), Lib.hid (GR.app HGp.out frT_stab (M := w2.heap.size + 1) trivial (by omega) (fun b hb => (by have := (HG2.out.own.blk hb).2.1; simp at this; omega)) (HG3.out) HO3.out HLm.out HW3.out), Lib.hid hRS, Lib.hid hTn, Lib.hid (by rw [HLm.out]; exact HRk.out.snoc HR2.out), Lib.hid (by have h1 := HKo.out; have h2 := HB.out; have h3 := HM.out.choose_spec.2; rw [HLm.out]; simp; omega), Lib.hid (.inr rfl), Lib.hid (Nat.le_trans HR2.out.2 HLk.out)⟩
      · have hkk : k = K := by omega
        subst hkk
        have hkl' : decide ((k : Int) < k) = false := by simp
        go_wp2
        go_ret
        obtain ⟨g1, g2⟩ := HG.out.fin frT_stab
        exact ⟨out, A1, c1, rfl, Lib.hid g1, Lib.hid g2, rn_of (HR1.out.rows HRk.out) HSk.out HTk.out⟩
set_option maxRecDepth 20000 in
set_option maxHeartbeats 8000000 in
theorem rows_ln (s0 : St) (w : World) (B P : Nat) (h : RS w B P s0) (hl : s0.l.length ≤ 400000) : Calls Tryz.prog 107 #[pt P, .func (.func 108) #[pt P] #[]] w fun e w' => ∃ (out : List Ln) (A : Option Addr) (c : Nat), e = .returned (.slice A out.length c) ∧ Hid (AW ln w' (fun b => b < w.heap.size) A out) ∧ Hid (∀ a ∈ out, FrT a w' (fun b => b < w.heap.size)) ∧ Rn (pRows pLn) B P w s0 out w' := by
  have hP := h.lt
  have HS0 := Lib.hid h; have HL0 := Lib.hid hl
  clear h hl
  go_enter Tryz.func107, Tryz.ntmps107
  go_wp2_with (fail)
  (with_reducible refine (num_any s0 _ B P HS0.out).mono ?_); rintro e w1 ⟨n, rfl, s1, HR1, HS1, HT1⟩
  by_cases hn : n < 0
  · have Hn := Lib.hid hn
    obtain ⟨A, c, hz, hy, hP1⟩ := HS1.out.cells
    go_wp2
    generalize hw : w1.setCell ⟨P, 1, none⟩ (.bool true) = w2 at *
    have HS2 : Hid (RS w2 B P ⟨s1.l, true⟩) := Lib.hid (hw ▸ HS1.out.fail)
    have HT2 : Hid (Tn P w w2) := Lib.hid (hw ▸ tn_trans HT1.out (tn_set w1 1 _))
    clear hw hz hy
    go_loopg [6, 16] 0 (fun g s6 s16 wr => g = 0 ∧ s6 = .slice none 0 0 ∧ s16 = .int .i64 0 ∧ Hid (wr = w2))
    case atStart => exact ⟨rfl, rfl, rfl, Lib.hid rfl⟩
    case round =>
      obtain ⟨rfl, rfl, rfl, HW⟩ := hrel
      have hn' : decide (0 < n) = false := by have := Hn.out; simp; omega
      go_wp2
      go_ret
      refine ⟨[], none, 0, rfl, Lib.hid (.inl rfl), Lib.hid (by simp), ⟨⟨s1.l, true⟩, Lib.hid (HR1.out.rows_neg Hn.out _), Lib.hid ?_, Lib.hid ?_⟩⟩
      · rw [HW.out]; exact HS2.out
      · rw [HW.out]; exact HT2.out
  · obtain ⟨K, rfl⟩ := Int.eq_ofNat_of_zero_le (show 0 ≤ n by omega)
    have hn' : decide ((K : Int) < 0) = false := by simp
    clear hn
    have HL1 : Hid (s1.l.length ≤ 400000) := Lib.hid (Nat.le_trans HR1.out.2 HL0.out)
    go_wp2_with (fail)
    go_loopg [6, 16] K (fun g s6 s16 wr => ∃ (k : Nat) (out : List Ln) (A1 : Option Addr) (c1 : Nat) (sk : St), k ≤ K ∧ g = K - k ∧ s6 = .slice A1 out.length c1 ∧ s16 = .int .i64 (k : Int) ∧ (k : Int) ≤ 400000 ∧ Hid (GR ln FrT w.heap.size wr A1 c1 out) ∧ Hid (RS wr B P sk) ∧ Hid (Tn P w wr) ∧ Hid (Rp (pMany pLn k) s1 out sk) ∧ Hid (k = out.length ∧ out.length ≤ s1.l.length) ∧ Hid (k = 0 ∨ sk.f = false) ∧ Hid (sk.l.length ≤ 400000))
    case atStart => exact ⟨0, [], none, 0, s1, by omega, rfl, rfl, rfl, by omega, Lib.hid (GR.nil _), HS1, HT1, Lib.hid (Rp.pure _ _), Lib.hid ⟨rfl, by simp⟩, Lib.hid (.inl rfl), HL1⟩
    case round =>
      obtain ⟨k, out, A1, c1, sk, hk, rfl, rfl, rfl, hkb, HG, HSk, HTk, HRk, HKo, HKf, HLk⟩ := hrel
      by_cases hlt : k < K
      · have hkl' : (k : Int) < K := by omega
        have hPw : P < wr.heap.size := HSk.out.lt
        go_wp2_with (fail)
        (with_reducible refine (ln_take sk _ B P HSk.out).mono ?_); rintro e w2 ⟨x, rfl, s2, HR2, HS2, HT2⟩
        obtain ⟨l2, f2⟩ := s2
        cases f2 with
        | true =>
          obtain ⟨A, c, hz, hy, hP2⟩ := HS2.out.cells
          go_wp2
          go_ret
          exact ⟨[], none, 0, rfl, Lib.hid (.inl rfl), Lib.hid (by simp), rn_of (HR1.out.rows (Rp.stop (HRk.out.snoc HR2.out) rfl (by omega))) (HS2.out.alloc _) (tn_alloc (tn_trans HTk.out HT2.out) _)⟩
        | false =>
          obtain ⟨A, c, hz, hy, hP2⟩ := HS2.out.cells
          have HM : Hid (∃ r, pMany pLn (k + 1) s1.l = some (r, l2) ∧ r.length = out.length + 1) := Lib.hid ⟨_, ((HRk.out.snoc HR2.out).ok rfl).2, by simp⟩
          have HB := Lib.hid (many_len (eatsLn.less (d := 1) (by omega)) HM.out.choose_spec.1)
          have hout : out.length + 1 ≤ 400000 := by have := HB.out; have := HM.out.choose_spec.2; have := HL1.out; omega
          have HG2 : Hid (GR ln FrT w.heap.size w2 A1 c1 out) := Lib.hid (HG.out.turn frT_stab HT2.out hP)
          have hww : w.heap.size ≤ wr.heap.size := HTk.out.size
          have hw2 : wr.heap.size ≤ w2.heap.size := HT2.out.size
          have HG2 : Hid (GR ln FrT w.heap.size (w2.alloc (.cells #[.int .i64 x.phase, .int .i64 x.whn, .int .i64 x.arg, .int .i64 x.dos, .int .i64 x.value] 73)) A1 c1 out) := Lib.hid (HG2.out.turn (P := P) frT_stab (tn_alloc (tn_refl P w2) _) hP)
          have HGp : Hid (GR ln FrT w.heap.size ((w2.alloc (.cells #[.int .i64 x.phase, .int .i64 x.whn, .int .i64 x.arg, .int .i64 x.dos, .int .i64 x.value] 73)).alloc (.cells #[.int .i64 x.phase, .int .i64 x.whn, .int .i64 x.arg, .int .i64 x.dos, .int .i64 x.value] 73)) A1 c1 out) := Lib.hid (HG2.out.turn (P := P) frT_stab (tn_alloc (tn_refl P _) _) hP)
          have HAp : Hid (OW ln ((w2.alloc (.cells #[.int .i64 x.phase, .int .i64 x.whn, .int .i64 x.arg, .int .i64 x.dos, .int .i64 x.value] 73)).alloc (.cells #[.int .i64 x.phase, .int .i64 x.whn, .int .i64 x.arg, .int .i64 x.dos, .int .i64 x.value] 73)) w.heap.size (.slice A1 out.length c1) out) := Lib.hid HGp.out.own
          go_wp2_with (at_builtin; refine Con.wpList_app ln rfl 53 rfl (.tmp 24) (.tmp 26) rfl w.heap.size (w2.heap.size + 2) (.slice A1 out.length c1) out [x] (some ⟨w2.heap.size + 1, 0, none⟩) 1 1 rfl rfl rfl HAp.out (rw_one1 rfl (by simp) (by simp)) (by simp; omega) (by simp; omega) ?_; intro A3 c3 w3 lm HLm HO3 HG3 HW3)
          go_roundg (K - (k + 1))
          case measure => omega
          case rel =>
            have hP3 : P < w.heap.size := hP
            have hRS : RS w3 B P ⟨l2, false⟩ := ((HS2.out.alloc _).alloc _).grown HG3.out (N := w.heap.size) (fun b hb => (HGp.out.own.blk hb).1) hP3
            have hTn : Tn P w w3 := tn_app (tn_alloc (tn_alloc (tn_trans HTk.out HT2.out) _) _) HGp.out.own HG3.out
            exact ⟨k + 1, lm, A3, c3, ⟨l2, false⟩, by omega, rfl, rfl, by go_num, (by have h1 := HKo.out; omega), Lib.hid (GR.app HGp.out frT_stab (M := w2.heap.size + 1) trivial (by omega) (fun b hb => (by have := (HG2.out.own.blk hb).2.1; simp at this; omega)) (HG3.out) HO3.out HLm.out HW3.out), Lib.hid hRS, Lib.hid hTn, Lib.hid (by rw [HLm.out]; exact HRk.out.snoc HR2.out), Lib.hid (by have h1 := HKo.out; have h2 := HB.out; have h3 := HM.out.choose_spec.2; rw [HLm.out]; simp; omega), Lib.hid (.inr rfl), Lib.hid (Nat.le_trans HR2.out.2 HLk.out)⟩
      · have hkk : k = K := by omega
        subst hkk
        have hkl' : decide ((k : Int) < k) = false := by simp
        go_wp2
        go_ret
        obtain ⟨g1, g2⟩ := HG.out.fin frT_stab
        exact ⟨out, A1, c1, rfl, Lib.hid g1, Lib.hid g2, rn_of (HR1.out.rows HRk.out) HSk.out HTk.out⟩
set_option maxRecDepth 20000 in
set_option maxHeartbeats 8000000 in
theorem rows_pz (s0 : St) (w : World) (B P : Nat) (h : RS w B P s0) (hl : s0.l.length ≤ 400000) : Calls Tryz.prog 109 #[pt P, .func (.func 110) #[pt P] #[]] w fun e w' => ∃ (out : List Pz) (A : Option Addr) (c : Nat), e = .returned (.slice A out.length c) ∧ Hid (AW pz w' (fun b => b < w.heap.size) A out) ∧ Hid (∀ a ∈ out, FrT a w' (fun b => b < w.heap.size)) ∧ Rn (pRows pPz) B P w s0 out w' := by
  have hP := h.lt
  have HS0 := Lib.hid h; have HL0 := Lib.hid hl
  clear h hl
  go_enter Tryz.func109, Tryz.ntmps109
  go_wp2_with (fail)
  (with_reducible refine (num_any s0 _ B P HS0.out).mono ?_); rintro e w1 ⟨n, rfl, s1, HR1, HS1, HT1⟩
  by_cases hn : n < 0
  · have Hn := Lib.hid hn
    obtain ⟨A, c, hz, hy, hP1⟩ := HS1.out.cells
    go_wp2
    generalize hw : w1.setCell ⟨P, 1, none⟩ (.bool true) = w2 at *
    have HS2 : Hid (RS w2 B P ⟨s1.l, true⟩) := Lib.hid (hw ▸ HS1.out.fail)
    have HT2 : Hid (Tn P w w2) := Lib.hid (hw ▸ tn_trans HT1.out (tn_set w1 1 _))
    clear hw hz hy
    go_loopg [6, 16] 0 (fun g s6 s16 wr => g = 0 ∧ s6 = .slice none 0 0 ∧ s16 = .int .i64 0 ∧ Hid (wr = w2))
    case atStart => exact ⟨rfl, rfl, rfl, Lib.hid rfl⟩
    case round =>
      obtain ⟨rfl, rfl, rfl, HW⟩ := hrel
      have hn' : decide (0 < n) = false := by have := Hn.out; simp; omega
      go_wp2
      go_ret
      refine ⟨[], none, 0, rfl, Lib.hid (.inl rfl), Lib.hid (by simp), ⟨⟨s1.l, true⟩, Lib.hid (HR1.out.rows_neg Hn.out _), Lib.hid ?_, Lib.hid ?_⟩⟩
      · rw [HW.out]; exact HS2.out
      · rw [HW.out]; exact HT2.out
  · obtain ⟨K, rfl⟩ := Int.eq_ofNat_of_zero_le (show 0 ≤ n by omega)
    have hn' : decide ((K : Int) < 0) = false := by simp
    clear hn
    have HL1 : Hid (s1.l.length ≤ 400000) := Lib.hid (Nat.le_trans HR1.out.2 HL0.out)
    go_wp2_with (fail)
    go_loopg [6, 16] K (fun g s6 s16 wr => ∃ (k : Nat) (out : List Pz) (A1 : Option Addr) (c1 : Nat) (sk : St), k ≤ K ∧ g = K - k ∧ s6 = .slice A1 out.length c1 ∧ s16 = .int .i64 (k : Int) ∧ (k : Int) ≤ 400000 ∧ Hid (GR pz FrT w.heap.size wr A1 c1 out) ∧ Hid (RS wr B P sk) ∧ Hid (Tn P w wr) ∧ Hid (Rp (pMany pPz k) s1 out sk) ∧ Hid (k = out.length ∧ out.length ≤ s1.l.length) ∧ Hid (k = 0 ∨ sk.f = false) ∧ Hid (sk.l.length ≤ 400000))
    case atStart => exact ⟨0, [], none, 0, s1, by omega, rfl, rfl, rfl, by omega, Lib.hid (GR.nil _), HS1, HT1, Lib.hid (Rp.pure _ _), Lib.hid ⟨rfl, by simp⟩, Lib.hid (.inl rfl), HL1⟩
    case round =>
      obtain ⟨k, out, A1, c1, sk, hk, rfl, rfl, rfl, hkb, HG, HSk, HTk, HRk, HKo, HKf, HLk⟩ := hrel
      by_cases hlt : k < K
      · have hkl' : (k : Int) < K := by omega
        have hPw : P < wr.heap.size := HSk.out.lt
        go_wp2_with (fail)
        (with_reducible refine (pz_take sk _ B P HSk.out).mono ?_); rintro e w2 ⟨x, rfl, s2, HR2, HS2, HT2⟩
        obtain ⟨l2, f2⟩ := s2
        cases f2 with
        | true =>
          obtain ⟨A, c, hz, hy, hP2⟩ := HS2.out.cells
          go_wp2
          go_ret
          exact ⟨[], none, 0, rfl, Lib.hid (.inl rfl), Lib.hid (by simp), rn_of (HR1.out.rows (Rp.stop (HRk.out.snoc HR2.out) rfl (by omega))) (HS2.out.alloc _) (tn_alloc (tn_trans HTk.out HT2.out) _)⟩
        | false =>
          obtain ⟨A, c, hz, hy, hP2⟩ := HS2.out.cells
          have HM : Hid (∃ r, pMany pPz (k + 1) s1.l = some (r, l2) ∧ r.length = out.length + 1) := Lib.hid ⟨_, ((HRk.out.snoc HR2.out).ok rfl).2, by simp⟩
          have HB := Lib.hid (many_len (eatsPz.less (d := 1) (by omega)) HM.out.choose_spec.1)
          have hout : out.length + 1 ≤ 400000 := by have := HB.out; have := HM.out.choose_spec.2; have := HL1.out; omega
          have HG2 : Hid (GR pz FrT w.heap.size w2 A1 c1 out) := Lib.hid (HG.out.turn frT_stab HT2.out hP)
          have hww : w.heap.size ≤ wr.heap.size := HTk.out.size
          have hw2 : wr.heap.size ≤ w2.heap.size := HT2.out.size
          have HG2 : Hid (GR pz FrT w.heap.size (w2.alloc (.cells #[.int .i64 x.item, .int .i64 x.weight] 75)) A1 c1 out) := Lib.hid (HG2.out.turn (P := P) frT_stab (tn_alloc (tn_refl P w2) _) hP)
          have HGp : Hid (GR pz FrT w.heap.size ((w2.alloc (.cells #[.int .i64 x.item, .int .i64 x.weight] 75)).alloc (.cells #[.int .i64 x.item, .int .i64 x.weight] 75)) A1 c1 out) := Lib.hid (HG2.out.turn (P := P) frT_stab (tn_alloc (tn_refl P _) _) hP)
          have HAp : Hid (OW pz ((w2.alloc (.cells #[.int .i64 x.item, .int .i64 x.weight] 75)).alloc (.cells #[.int .i64 x.item, .int .i64 x.weight] 75)) w.heap.size (.slice A1 out.length c1) out) := Lib.hid HGp.out.own
          go_wp2_with (at_builtin; refine Con.wpList_app pz rfl 54 rfl (.tmp 24) (.tmp 26) rfl w.heap.size (w2.heap.size + 2) (.slice A1 out.length c1) out [x] (some ⟨w2.heap.size + 1, 0, none⟩) 1 1 rfl rfl rfl HAp.out (rw_one1 rfl (by simp) (by simp)) (by simp; omega) (by simp; omega) ?_; intro A3 c3 w3 lm HLm HO3 HG3 HW3)
          go_roundg (K - (k + 1))
          case measure => omega
          case rel =>
            have hP3 : P < w.heap.size := hP
            have hRS : RS w3 B P ⟨l2, false⟩ := ((HS2.out.alloc _).alloc _).grown HG3.out (N := w.heap.size) (fun b hb => (HGp.out.own.blk hb).1) hP3
            have hTn : Tn P w w3 := tn_app (tn_alloc (tn_alloc (tn_trans HTk.out HT2.out) _) _) HGp.out.own HG3.out
            exact ⟨k + 1, lm, A3, c3, ⟨l2, false⟩, by omega, rfl, rfl, by go_num, (by have h1 := HKo.out; omega), Lib.hid (GR.app HGp.out frT_stab (M := w2.heap.size + 1) trivial (by omega) (fun b hb => (by have := (HG2.out.own.blk hb).2.1; simp at this; omega)) (HG3.out) HO3.out HLm.out HW3.out), Lib.hid hRS, Lib.hid hTn, Lib.hid (by rw [HLm.out]; exact HRk.out.snoc HR2.out), Lib.hid (by have h1 := HKo.out; have h2 := HB.out; have h3 := HM.out.choose_spec.2; rw [HLm.out]; simp; omega), Lib.hid (.inr rfl), Lib.hid (Nat.le_trans HR2.out.2 HLk.out)⟩
      · have hkk : k = K := by omega
        subst hkk
        have hkl' : decide ((k : Int) < k) = false := by simp
        go_wp2
        go_ret
        obtain ⟨g1, g2⟩ := HG.out.fin frT_stab
        exact ⟨out, A1, c1, rfl, Lib.hid g1, Lib.hid g2, rn_of (HR1.out.rows HRk.out) HSk.out HTk.out⟩
set_option maxRecDepth 20000 in
set_option maxHeartbeats 8000000 in
theorem rows_bo (s0 : St) (w : World) (B P : Nat) (h : RS w B P s0) (hl : s0.l.length ≤ 400000) : Calls Tryz.prog 111 #[pt P, .func (.func 104) #[pt P] #[]] w fun e w' => ∃ (out : List Bool) (A : Option Addr) (c : Nat), e = .returned (.slice A out.length c) ∧ Hid (AW bo w' (fun b => b < w.heap.size) A out) ∧ Hid (∀ a ∈ out, FrT a w' (fun b => b < w.heap.size)) ∧ Rn (pRows pT) B P w s0 out w' := by
  have hP := h.lt
  have HS0 := Lib.hid h; have HL0 := Lib.hid hl
  clear h hl
  go_enter Tryz.func111, Tryz.ntmps111
  go_wp2_with (fail)
  (with_reducible refine (num_any s0 _ B P HS0.out).mono ?_); rintro e w1 ⟨n, rfl, s1, HR1, HS1, HT1⟩
  by_cases hn : n < 0
  · have Hn := Lib.hid hn
    obtain ⟨A, c, hz, hy, hP1⟩ := HS1.out.cells
    go_wp2
    generalize hw : w1.setCell ⟨P, 1, none⟩ (.bool true) = w2 at *
    have HS2 : Hid (RS w2 B P ⟨s1.l, true⟩) := Lib.hid (hw ▸ HS1.out.fail)
    have HT2 : Hid (Tn P w w2) := Lib.hid (hw ▸ tn_trans HT1.out (tn_set w1 1 _))
    clear hw hz hy
    go_loopg [6, 16] 0 (fun g s6 s16 wr => g = 0 ∧ s6 = .slice none 0 0 ∧ s16 = .int .i64 0 ∧ Hid (wr = w2))
    case atStart => exact ⟨rfl, rfl, rfl, Lib.hid rfl⟩
    case round =>
      obtain ⟨rfl, rfl, rfl, HW⟩ := hrel
      have hn' : decide (0 < n) = false := by have := Hn.out; simp; omega
      go_wp2
      go_ret
      refine ⟨[], none, 0, rfl, Lib.hid (.inl rfl), Lib.hid (by simp), ⟨⟨s1.l, true⟩, Lib.hid (HR1.out.rows_neg Hn.out _), Lib.hid ?_, Lib.hid ?_⟩⟩
      · rw [HW.out]; exact HS2.out
      · rw [HW.out]; exact HT2.out
  · obtain ⟨K, rfl⟩ := Int.eq_ofNat_of_zero_le (show 0 ≤ n by omega)
    have hn' : decide ((K : Int) < 0) = false := by simp
    clear hn
    have HL1 : Hid (s1.l.length ≤ 400000) := Lib.hid (Nat.le_trans HR1.out.2 HL0.out)
    go_wp2_with (fail)
    go_loopg [6, 16] K (fun g s6 s16 wr => ∃ (k : Nat) (out : List Bool) (A1 : Option Addr) (c1 : Nat) (sk : St), k ≤ K ∧ g = K - k ∧ s6 = .slice A1 out.length c1 ∧ s16 = .int .i64 (k : Int) ∧ (k : Int) ≤ 400000 ∧ Hid (GR bo FrT w.heap.size wr A1 c1 out) ∧ Hid (RS wr B P sk) ∧ Hid (Tn P w wr) ∧ Hid (Rp (pMany pT k) s1 out sk) ∧ Hid (k = out.length ∧ out.length ≤ s1.l.length) ∧ Hid (k = 0 ∨ sk.f = false) ∧ Hid (sk.l.length ≤ 400000))
    case atStart => exact ⟨0, [], none, 0, s1, by omega, rfl, rfl, rfl, by omega, Lib.hid (GR.nil _), HS1, HT1, Lib.hid (Rp.pure _ _), Lib.hid ⟨rfl, by simp⟩, Lib.hid (.inl rfl), HL1⟩
    case round =>
      obtain ⟨k, out, A1, c1, sk, hk, rfl, rfl, rfl, hkb, HG, HSk, HTk, HRk, HKo, HKf, HLk⟩ := hrel
      by_cases hlt : k < K
      · have hkl' : (k : Int) < K := by omega
        have hPw : P < wr.heap.size := HSk.out.lt
        go_wp2_with (fail)
        (with_reducible refine (tru_any sk _ B P HSk.out).mono ?_); rintro e w2 ⟨x, rfl, s2, HR2, HS2, HT2⟩
        obtain ⟨l2, f2⟩ := s2
        cases f2 with
        | true =>
          obtain ⟨A, c, hz, hy, hP2⟩ := HS2.out.cells
          go_wp2
          go_ret
          exact ⟨[], none, 0, rfl, Lib.hid (.inl rfl), Lib.hid (by simp), rn_of (HR1.out.rows (Rp.stop (HRk.out.snoc HR2.out) rfl (by omega))) (HS2.out) (tn_trans HTk.out HT2.out)⟩
        | false =>
          obtain ⟨A, c, hz, hy, hP2⟩ := HS2.out.cells
          have HM : Hid (∃ r, pMany pT (k + 1) s1.l = some (r, l2) ∧ r.length = out.length + 1) := Lib.hid ⟨_, ((HRk.out.snoc HR2.out).ok rfl).2, by simp⟩
          have HB := Lib.hid (many_len (eatsT.less (d := 1) (by omega)) HM.out.choose_spec.1)
          have hout : out.length + 1 ≤ 400000 := by have := HB.out; have := HM.out.choose_spec.2; have := HL1.out; omega
          have HG2 : Hid (GR bo FrT w.heap.size w2 A1 c1 out) := Lib.hid (HG.out.turn frT_stab HT2.out hP)
          have hww : w.heap.size ≤ wr.heap.size := HTk.out.size
          have hw2 : wr.heap.size ≤ w2.heap.size := HT2.out.size

          have HGp : Hid (GR bo FrT w.heap.size (w2.alloc (.cells #[.bool x] 4)) A1 c1 out) := Lib.hid (HG2.out.turn (P := P) frT_stab (tn_alloc (tn_refl P _) _) hP)
          have HAp : Hid (OW bo (w2.alloc (.cells #[.bool x] 4)) w.heap.size (.slice A1 out.length c1) out) := Lib.hid HGp.out.own
          go_wp2_with (at_builtin; refine Con.wpList_app bo rfl 25 rfl (.tmp 24) (.tmp 26) rfl w.heap.size (w2.heap.size + 1) (.slice A1 out.length c1) out [x] (some ⟨w2.heap.size, 0, none⟩) 1 1 rfl rfl rfl HAp.out (rw_one1 rfl (by simp) (by simp)) (by simp; omega) (by simp; omega) ?_; intro A3 c3 w3 lm HLm HO3 HG3 HW3)
          go_roundg (K - (k + 1))
          case measure => omega
          case rel =>
            have hP3 : P < w.heap.size := hP
            have hRS : RS w3 B P ⟨l2, false⟩ := ((HS2.out).alloc _).grown HG3.out (N := w.heap.size) (fun b hb => (HGp.out.own.blk hb).1) hP3
            have hTn : Tn P w w3 := tn_app (tn_alloc (tn_trans HTk.out HT2.out) _) HGp.out.own HG3.out
            exact ⟨k + 1, lm, A3, c3, ⟨l2, false⟩, by omega, rfl, rfl, by go_num, (by have h1 := HKo.out; omega), Lib.hid (GR.app HGp.out frT_stab (M := w2.heap.size) trivial (by omega) (fun b hb => (by have := (HG2.out.own.blk hb).2.1; omega)) (HG3.out) HO3.out HLm.out HW3.out), Lib.hid hRS, Lib.hid hTn, Lib.hid (by rw [HLm.out]; exact HRk.out.snoc HR2.out), Lib.hid (by have h1 := HKo.out; have h2 := HB.out; have h3 := HM.out.choose_spec.2; rw [HLm.out]; simp; omega), Lib.hid (.inr rfl), Lib.hid (Nat.le_trans HR2.out.2 HLk.out)⟩
      · have hkk : k = K := by omega
        subst hkk
        have hkl' : decide ((k : Int) < k) = false := by simp
        go_wp2
        go_ret
        obtain ⟨g1, g2⟩ := HG.out.fin frT_stab
        exact ⟨out, A1, c1, rfl, Lib.hid g1, Lib.hid g2, rn_of (HR1.out.rows HRk.out) HSk.out HTk.out⟩
set_option maxRecDepth 20000 in
set_option maxHeartbeats 8000000 in
theorem rows_au (s0 : St) (w : World) (B P : Nat) (h : RS w B P s0) (hl : s0.l.length ≤ 400000) : Calls Tryz.prog 71 #[pt P, .func (.func 72) #[pt P] #[]] w fun e w' => ∃ (out : List Au) (A : Option Addr) (c : Nat), e = .returned (.slice A out.length c) ∧ Hid (AW au w' (fun b => b < w.heap.size) A out) ∧ Hid (∀ a ∈ out, FrT a w' (fun b => b < w.heap.size)) ∧ Rn (pRows pAu) B P w s0 out w' := by
  have hP := h.lt
  have HS0 := Lib.hid h; have HL0 := Lib.hid hl
  clear h hl
  go_enter Tryz.func71, Tryz.ntmps71
  go_wp2_with (fail)
  (with_reducible refine (num_any s0 _ B P HS0.out).mono ?_); rintro e w1 ⟨n, rfl, s1, HR1, HS1, HT1⟩
  by_cases hn : n < 0
  · have Hn := Lib.hid hn
    obtain ⟨A, c, hz, hy, hP1⟩ := HS1.out.cells
    go_wp2
    generalize hw : w1.setCell ⟨P, 1, none⟩ (.bool true) = w2 at *
    have HS2 : Hid (RS w2 B P ⟨s1.l, true⟩) := Lib.hid (hw ▸ HS1.out.fail)
    have HT2 : Hid (Tn P w w2) := Lib.hid (hw ▸ tn_trans HT1.out (tn_set w1 1 _))
    clear hw hz hy
    go_loopg [6, 16] 0 (fun g s6 s16 wr => g = 0 ∧ s6 = .slice none 0 0 ∧ s16 = .int .i64 0 ∧ Hid (wr = w2))
    case atStart => exact ⟨rfl, rfl, rfl, Lib.hid rfl⟩
    case round =>
      obtain ⟨rfl, rfl, rfl, HW⟩ := hrel
      have hn' : decide (0 < n) = false := by have := Hn.out; simp; omega
      go_wp2
      go_ret
      refine ⟨[], none, 0, rfl, Lib.hid (.inl rfl), Lib.hid (by simp), ⟨⟨s1.l, true⟩, Lib.hid (HR1.out.rows_neg Hn.out _), Lib.hid ?_, Lib.hid ?_⟩⟩
      · rw [HW.out]; exact HS2.out
      · rw [HW.out]; exact HT2.out
  · obtain ⟨K, rfl⟩ := Int.eq_ofNat_of_zero_le (show 0 ≤ n by omega)
    have hn' : decide ((K : Int) < 0) = false := by simp
    clear hn
    have HL1 : Hid (s1.l.length ≤ 400000) := Lib.hid (Nat.le_trans HR1.out.2 HL0.out)
    go_wp2_with (fail)
    go_loopg [6, 16] K (fun g s6 s16 wr => ∃ (k : Nat) (out : List Au) (A1 : Option Addr) (c1 : Nat) (sk : St), k ≤ K ∧ g = K - k ∧ s6 = .slice A1 out.length c1 ∧ s16 = .int .i64 (k : Int) ∧ (k : Int) ≤ 400000 ∧ Hid (GR au FrT w.heap.size wr A1 c1 out) ∧ Hid (RS wr B P sk) ∧ Hid (Tn P w wr) ∧ Hid (Rp (pMany pAu k) s1 out sk) ∧ Hid (k = out.length ∧ out.length ≤ s1.l.length) ∧ Hid (k = 0 ∨ sk.f = false) ∧ Hid (sk.l.length ≤ 400000))
    case atStart => exact ⟨0, [], none, 0, s1, by omega, rfl, rfl, rfl, by omega, Lib.hid (GR.nil _), HS1, HT1, Lib.hid (Rp.pure _ _), Lib.hid ⟨rfl, by simp⟩, Lib.hid (.inl rfl), HL1⟩
    case round =>
      obtain ⟨k, out, A1, c1, sk, hk, rfl, rfl, rfl, hkb, HG, HSk, HTk, HRk, HKo, HKf, HLk⟩ := hrel
      by_cases hlt : k < K
      · have hkl' : (k : Int) < K := by omega
        have hPw : P < wr.heap.size := HSk.out.lt
        go_wp2_with (fail)
        (with_reducible refine (au_take sk _ B P HSk.out).mono ?_); rintro e w2 ⟨x, rfl, s2, HR2, HS2, HT2⟩
        obtain ⟨l2, f2⟩ := s2
        cases f2 with
        | true =>
          obtain ⟨A, c, hz, hy, hP2⟩ := HS2.out.cells
          go_wp2
          go_ret
          exact ⟨[], none, 0, rfl, Lib.hid (.inl rfl), Lib.hid (by simp), rn_of (HR1.out.rows (Rp.stop (HRk.out.snoc HR2.out) rfl (by omega))) (HS2.out.alloc _) (tn_alloc (tn_trans HTk.out HT2.out) _)⟩
        | false =>
          obtain ⟨A, c, hz, hy, hP2⟩ := HS2.out.cells
          have HM : Hid (∃ r, pMany pAu (k + 1) s1.l = some (r, l2) ∧ r.length = out.length + 1) := Lib.hid ⟨_, ((HRk.out.snoc HR2.out).ok rfl).2, by simp⟩
          have HB := Lib.hid (many_len (eatsAu.less (d := 1) (by omega)) HM.out.choose_spec.1)
          have hout : out.length + 1 ≤ 400000 := by have := HB.out; have := HM.out.choose_spec.2; have := HL1.out; omega
          have HG2 : Hid (GR au FrT w.heap.size w2 A1 c1 out) := Lib.hid (HG.out.turn frT_stab HT2.out hP)
          have hww : w.heap.size ≤ wr.heap.size := HTk.out.size
          have hw2 : wr.heap.size ≤ w2.heap.size := HT2.out.size
          have HG2 : Hid (GR au FrT w.heap.size (w2.alloc (.cells #[.int .i64 x.id, .int .i64 x.kind, .int .i64 x.ticks, .int .i64 x.every, .int .i64 x.stacks, .int .i64 x.amount, .bool x.harm] 63)) A1 c1 out) := Lib.hid (HG2.out.turn (P := P) frT_stab (tn_alloc (tn_refl P w2) _) hP)
          have HGp : Hid (GR au FrT w.heap.size ((w2.alloc (.cells #[.int .i64 x.id, .int .i64 x.kind, .int .i64 x.ticks, .int .i64 x.every, .int .i64 x.stacks, .int .i64 x.amount, .bool x.harm] 63)).alloc (.cells #[.int .i64 x.id, .int .i64 x.kind, .int .i64 x.ticks, .int .i64 x.every, .int .i64 x.stacks, .int .i64 x.amount, .bool x.harm] 63)) A1 c1 out) := Lib.hid (HG2.out.turn (P := P) frT_stab (tn_alloc (tn_refl P _) _) hP)
          have HAp : Hid (OW au ((w2.alloc (.cells #[.int .i64 x.id, .int .i64 x.kind, .int .i64 x.ticks, .int .i64 x.every, .int .i64 x.stacks, .int .i64 x.amount, .bool x.harm] 63)).alloc (.cells #[.int .i64 x.id, .int .i64 x.kind, .int .i64 x.ticks, .int .i64 x.every, .int .i64 x.stacks, .int .i64 x.amount, .bool x.harm] 63)) w.heap.size (.slice A1 out.length c1) out) := Lib.hid HGp.out.own
          go_wp2_with (at_builtin; refine Con.wpList_app au rfl 23 rfl (.tmp 24) (.tmp 26) rfl w.heap.size (w2.heap.size + 2) (.slice A1 out.length c1) out [x] (some ⟨w2.heap.size + 1, 0, none⟩) 1 1 rfl rfl rfl HAp.out (rw_one1 rfl (by simp) (by simp)) (by simp; omega) (by simp; omega) ?_; intro A3 c3 w3 lm HLm HO3 HG3 HW3)
          go_roundg (K - (k + 1))
          case measure => omega
          case rel =>
            have hP3 : P < w.heap.size := hP
            have hRS : RS w3 B P ⟨l2, false⟩ := ((HS2.out.alloc _).alloc _).grown HG3.out (N := w.heap.size) (fun b hb => (HGp.out.own.blk hb).1) hP3
            have hTn : Tn P w w3 := tn_app (tn_alloc (tn_alloc (tn_trans HTk.out HT2.out) _) _) HGp.out.own HG3.out
            exact ⟨k + 1, lm, A3, c3, ⟨l2, false⟩, by omega, rfl, rfl, by go_num, (by have h1 := HKo.out; omega), Lib.hid (GR.app HGp.out frT_stab (M := w2.heap.size + 1) trivial (by omega) (fun b hb => (by have := (HG2.out.own.blk hb).2.1; simp at this; omega)) (HG3.out) HO3.out HLm.out HW3.out), Lib.hid hRS, Lib.hid hTn, Lib.hid (by rw [HLm.out]; exact HRk.out.snoc HR2.out), Lib.hid (by have h1 := HKo.out; have h2 := HB.out; have h3 := HM.out.choose_spec.2; rw [HLm.out]; simp; omega), Lib.hid (.inr rfl), Lib.hid (Nat.le_trans HR2.out.2 HLk.out)⟩
      · have hkk : k = K := by omega
        subst hkk
        have hkl' : decide ((k : Int) < k) = false := by simp
        go_wp2
        go_ret
        obtain ⟨g1, g2⟩ := HG.out.fin frT_stab
        exact ⟨out, A1, c1, rfl, Lib.hid g1, Lib.hid g2, rn_of (HR1.out.rows HRk.out) HSk.out HTk.out⟩
end Go.Proofs.YtpjenkgimkndaaaGreat.Con
