/-
  The law of ticks: who asks at each time gets as many ticks as there are times, Every apart.
-/
import Derived.Test.YtijobbdgiaiocaaSma
import Derived.Test.YtijobbdgiaiocaaOpen
import Derived.Test.YtijobbdgiaiocaaKop
import Derived.WalkKit
import Derived.ProofKit
import Derived.OpenShut
namespace Go.Proofs.Ytijobbdgiaiocaa.auraTicks
open Go.ChangeShapes Go.WideShapes Go.ChangeAt Go.RowKit Con
set_option linter.unusedVariables false

theorem own : ownKnob Try.prog.godebug = none := by kernel_rfl

theorem lk1 {a : Au} (h : a.id = 1) : lkB [a] 1 = true ∧ lkA [a] 1 = a := by
  unfold lkB lkA
  rw [lkF_cons, if_pos h]
  exact ⟨rfl, rfl⟩
/-- The row behind a tick, if it is due. -/
def nxY (a : Au) (now : Int) (y : Ac) : Ac := if y.nxt ≤ now then ⟨y.aura, y.source, y.stacks, y.untl, held (y.nxt + a.every), y.left⟩ else y
theorem tick1 {V : World} {c : Cn} {a : Au} (hA : AuC c V) (hu : c.au = [a]) (hn : NAu a) (hid : a.id = 1) (hev : 0 < a.every) {y : Ac} (hy : y.aura = 1) (hny : NAc y) {A : Option Addr} {cp B : Nat} (hr : RW ac V B A [y]) (hB : B ≤ V.heap.size) (now : Int) (nd : Nat) (hnd : (y.nxt ≤ now ∧ nd = 1) ∨ (¬ y.nxt ≤ now ∧ nd = 0)) :
    Calls Try.prog 14 #[cnv c, .slice A 1 cp, .int .i64 now] V fun e w' => ∃ A1 c1 A2 c2, e = .returned (.tuple #[.slice A1 1 c1, .slice A2 nd c2]) ∧ Hid (RW ac w' w'.heap.size A1 [nxY a now y]) ∧ Below V.heap.size V w' := by
  have h := tick_any (w := V) (B := B) (A := A) (l := [y]) (n := 1) (cp := cp) now hA (by rw [hu]; intro b hb; simp at hb; subst hb; exact hn) (by intro b hb; simp at hb; subst hb; exact hny) rfl (by omega) hr hB
  rw [hu] at h
  have hP : tkP [a] now y = decide (y.nxt ≤ now) := by unfold tkP; rw [hy, (lk1 hid).1, (lk1 hid).2]; simp [hev]
  have h1 : [y].map (tkA [a] now) = [nxY a now y] := by
    simp only [List.map_cons, List.map_nil]
    unfold tkA nxY
    rw [hP, hy, (lk1 hid).2]
    by_cases hh : y.nxt ≤ now <;> simp [hh]
  have h2 : (tkD [a] now [y] 1).length = nd := by
    rcases hnd with ⟨q1, q2⟩ | ⟨q1, q2⟩
    · rw [td_yes (l := [y]) (k := 0) rfl (by rw [hP]; simpa using q1), q2]; rfl
    · rw [td_no (l := [y]) (k := 0) rfl (by rw [hP]; simpa using q1), q2]; rfl
  rw [h1] at h
  refine h.mono fun e w' h => ?_
  obtain ⟨A1, c1, A2, c2, q1, q2⟩ := h
  rw [h2] at q1
  exact ⟨A1, c1, A2, c2, q1, Lib.hid q2.out.a.pw.rw', q2.out.below⟩
/-- Ticks till then. -/
def nT (e j : Nat) : Nat := (j - 1) / e
theorem nT_zero (e : Nat) : nT e 0 = 0 := by simp [nT]
theorem nT_next {e j : Nat} (he : 0 < e) (h : e * (nT e j + 1) ≤ j) : nT e (j + 1) = nT e j + 1 := by
  unfold nT at *
  rw [Nat.add_sub_cancel]
  generalize hq : (j - 1) / e = q at *
  have h1 : j - 1 < e * (q + 1) := by rw [← hq, Nat.mul_comm]; exact (Nat.div_lt_iff_lt_mul he).1 (Nat.lt_succ_self _)
  have h2 : j = e * (q + 1) := by omega
  rw [h2, Nat.mul_div_cancel_left _ he]
theorem nT_same {e j : Nat} (he : 0 < e) (h : ¬ e * (nT e j + 1) ≤ j) : nT e (j + 1) = nT e j := by
  unfold nT at *
  rw [Nat.add_sub_cancel]
  generalize hq : (j - 1) / e = q at *
  have h1 : e * q ≤ j - 1 := by rw [← hq, Nat.mul_comm]; exact Nat.div_mul_le_self _ _
  apply Nat.le_antisymm
  · have : j / e < q + 1 := by rw [Nat.div_lt_iff_lt_mul he, Nat.mul_comm]; omega
    omega
  · rw [Nat.le_div_iff_mul_le he, Nat.mul_comm]; omega
theorem nT_le {e j : Nat} : nT e j ≤ j := Nat.le_trans (Nat.div_le_self _ _) (Nat.sub_le _ _)
/-- The row at that time. -/
def rT (f e u j : Nat) : Ac := ⟨1, 0, 1, (u : Int), ((f + e * (nT e j + 1) : Nat) : Int), 0⟩

set_option maxRecDepth 20000 in
set_option maxHeartbeats 4000000 in
theorem walk (w : World) (every : Int) (h0 : Fits every) (ticks : Int) (h1 : Fits ticks) (frm : Int) (h2 : Fits frm) (to : Int) (h3 : Fits to) :
    Calls Try.prog 6 #[.int .i64 every, .int .i64 ticks, .int .i64 frm, .int .i64 to] w fun e w' => e = .returned (.bool true) ∧ Below w.heap.size w w' := by
  have HSmall := Lib.hid (small_any w)
  go_enter Try.func6, Try.ntmps6
  by_cases g0 : every < 1
  · go_wp2_with ((with_reducible refine HSmall.out.mono ?_); rintro e w1 ⟨rfl, hB1⟩)
    go_ret
    exact ⟨rfl, hB1⟩
  · have g0' : decide (every < 1) = false := by simpa using g0
    by_cases g1 : 50 < every
    · go_wp2_with ((with_reducible refine HSmall.out.mono ?_); rintro e w1 ⟨rfl, hB1⟩)
      go_ret
      exact ⟨rfl, hB1⟩
    · have g1' : decide (50 < every) = false := by simpa using g1
      by_cases g2 : ticks < 1
      · go_wp2_with ((with_reducible refine HSmall.out.mono ?_); rintro e w1 ⟨rfl, hB1⟩)
        go_ret
        exact ⟨rfl, hB1⟩
      · have g2' : decide (ticks < 1) = false := by simpa using g2
        by_cases g3 : 500 < ticks
        · go_wp2_with ((with_reducible refine HSmall.out.mono ?_); rintro e w1 ⟨rfl, hB1⟩)
          go_ret
          exact ⟨rfl, hB1⟩
        · have g3' : decide (500 < ticks) = false := by simpa using g3
          by_cases g4 : frm < 0
          · go_wp2_with ((with_reducible refine HSmall.out.mono ?_); rintro e w1 ⟨rfl, hB1⟩)
            go_ret
            exact ⟨rfl, hB1⟩
          · have g4' : decide (frm < 0) = false := by simpa using g4
            by_cases g5 : 1048576 < frm
            · go_wp2_with ((with_reducible refine HSmall.out.mono ?_); rintro e w1 ⟨rfl, hB1⟩)
              go_ret
              exact ⟨rfl, hB1⟩
            · have g5' : decide (1048576 < frm) = false := by simpa using g5
              by_cases g6 : to < 0
              · go_wp2_with ((with_reducible refine HSmall.out.mono ?_); rintro e w1 ⟨rfl, hB1⟩)
                go_ret
                exact ⟨rfl, hB1⟩
              · have g6' : decide (to < 0) = false := by simpa using g6
                by_cases g7 : 500 < to
                · go_wp2_with ((with_reducible refine HSmall.out.mono ?_); rintro e w1 ⟨rfl, hB1⟩)
                  go_ret
                  exact ⟨rfl, hB1⟩
                · have g7' : decide (500 < to) = false := by simpa using g7
                  obtain ⟨e, rfl⟩ : ∃ e : Nat, every = (e : Int) := ⟨every.toNat, by omega⟩
                  obtain ⟨tk, rfl⟩ : ∃ tk : Nat, ticks = (tk : Int) := ⟨ticks.toNat, by omega⟩
                  obtain ⟨f, rfl⟩ : ∃ f : Nat, frm = (f : Int) := ⟨frm.toNat, by omega⟩
                  obtain ⟨t, rfl⟩ : ∃ t : Nat, to = (t : Int) := ⟨to.toNat, by omega⟩
                  have he1 : 1 ≤ e := by omega
                  have he50 : e ≤ 50 := by omega
                  have htk : tk ≤ 500 := by omega
                  have hf : f ≤ 1048576 := by omega
                  have ht : t ≤ 500 := by omega
                  have HNa : Hid (NAu ⟨1, 2, (tk : Int), (e : Int), 1, 1, false⟩) := Lib.hid ⟨h1, h0, ⟨by simp, by simp⟩, ⟨by simp, by simp⟩⟩
                  have HKn : Hid (∀ V, Calls Try.prog 27 #[.agg #[.int .i64 1, .int .i64 2, .int .i64 (tk : Int), .int .i64 (e : Int), .int .i64 1, .int .i64 1, .bool false]] V fun q w' => ∃ c : Cn, q = .returned (cnv c) ∧ Hid (RC w' w'.heap.size c) ∧ Hid (Sm c) ∧ Hid (c.au = [⟨1, 2, (tk : Int), (e : Int), 1, 1, false⟩]) ∧ Hid (∃ p q, c = kn p q ⟨1, 2, (tk : Int), (e : Int), 1, 1, false⟩) ∧ Below V.heap.size V w') := Lib.hid (fun V => known_c ⟨1, 2, (tk : Int), (e : Int), 1, 1, false⟩ V)
                  have HAp : Hid (∀ V c, AuC c V → c.au = [⟨1, 2, (tk : Int), (e : Int), 1, 1, false⟩] → Calls Try.prog 9 #[cnv c, .slice none 0 0, .int .i64 1, .int .i64 0, .int .i64 (f : Int)] V (R1 V [rT f e (f + tk) 0])) := Lib.hid (fun V c hA hu => by
                    have h := apply_any (w := V) (B := 0) (A := none) (l := []) (n := 0) (cp := 0) 1 0 (f : Int) hA (by rw [hu]; intro b hb; simp at hb; subst hb; exact HNa.out) (by simp) rfl (by omega) (.inl rfl) (by omega) h2
                    have hl := lk1 (a := ⟨1, 2, (tk : Int), (e : Int), 1, 1, false⟩) rfl
                    have hp : plI [] 1 0 < 0 := by decide
                    have q := ap_new (L := [⟨1, 2, (tk : Int), (e : Int), 1, 1, false⟩]) (l := []) (id := 1) (src := 0) (now := (f : Int)) hl.1 hp (by simp)
                    rw [hu, q.1, q.2, hl.2] at h
                    have e1 : newL ⟨1, 2, (tk : Int), (e : Int), 1, 1, false⟩ 1 0 (f : Int) = rT f e (f + tk) 0 := by
                      unfold newL rT firstT fullL
                      have e0 : ¬ (e : Int) = 0 := by omega
                      rw [nT_zero]
                      simp only [e0, if_false]
                      rw [held_in ⟨by omega, by omega⟩, held_in ⟨by omega, by omega⟩]
                      simp
                    rw [List.nil_append, e1] at h
                    exact h)
                  have HTi : Hid (∀ V c, AuC c V → c.au = [⟨1, 2, (tk : Int), (e : Int), 1, 1, false⟩] → ∀ A cp j, j ≤ t → RW ac V V.heap.size A [rT f e (f + tk) j] → ∀ nd : Nat, nT e (j + 1) = nT e j + nd → Calls Try.prog 14 #[cnv c, .slice A 1 cp, .int .i64 ((f : Int) + (j : Int))] V fun q w' => ∃ A1 c1 A2 c2, q = .returned (.tuple #[.slice A1 1 c1, .slice A2 nd c2]) ∧ Hid (RW ac w' w'.heap.size A1 [rT f e (f + tk) (j + 1)]) ∧ Below V.heap.size V w') := Lib.hid (fun V c hA hu A cp j hj hr nd hnd => by
                    have hle : nT e j ≤ 501 := Nat.le_trans nT_le (by omega)
                    have hmul : e * (nT e j + 1) ≤ 50 * 502 := Nat.mul_le_mul he50 (by omega)
                    have hny : NAc (rT f e (f + tk) j) := ⟨⟨by simp [rT], by simp [rT]⟩, ⟨by simp only [rT]; omega, by simp only [rT]; omega⟩, ⟨by simp [rT], by simp [rT]⟩⟩
                    by_cases hh : e * (nT e j + 1) ≤ j
                    · have e1 := nT_next (by omega) hh
                      have e2 : nd = 1 := by omega
                      have hc : (rT f e (f + tk) j).nxt ≤ (f : Int) + (j : Int) := by simp only [rT]; omega
                      have h := tick1 (cp := cp) hA hu HNa.out rfl (by show (0 : Int) < (e : Int); omega) (y := rT f e (f + tk) j) rfl hny hr (Nat.le_refl _) ((f : Int) + (j : Int)) nd (.inl ⟨hc, e2⟩)
                      have e3 : nxY ⟨1, 2, (tk : Int), (e : Int), 1, 1, false⟩ ((f : Int) + (j : Int)) (rT f e (f + tk) j) = rT f e (f + tk) (j + 1) := by
                        unfold nxY
                        rw [if_pos hc]
                        unfold rT
                        rw [e1]
                        have e4 : e * (nT e j + 1 + 1) = e * (nT e j + 1) + e := by rw [Nat.mul_add e (nT e j + 1) 1, Nat.mul_one]
                        simp only [e4]
                        rw [held_in ⟨by omega, by omega⟩]
                        have e5 : (((f + e * (nT e j + 1) : Nat) : Int) + (e : Int)) = ((f + (e * (nT e j + 1) + e) : Nat) : Int) := by omega
                        rw [e5]
                      rw [e3] at h
                      exact h
                    · have e1 := nT_same (by omega) hh
                      have e2 : nd = 0 := by omega
                      have hc : ¬ (rT f e (f + tk) j).nxt ≤ (f : Int) + (j : Int) := by simp only [rT]; omega
                      have h := tick1 (cp := cp) hA hu HNa.out rfl (by show (0 : Int) < (e : Int); omega) (y := rT f e (f + tk) j) rfl hny hr (Nat.le_refl _) ((f : Int) + (j : Int)) nd (.inr ⟨hc, e2⟩)
                      have e3 : nxY ⟨1, 2, (tk : Int), (e : Int), 1, 1, false⟩ ((f : Int) + (j : Int)) (rT f e (f + tk) j) = rT f e (f + tk) (j + 1) := by
                        unfold nxY
                        rw [if_neg hc]
                        unfold rT
                        rw [e1]
                      rw [e3] at h
                      exact h)
                  clear g0 g1 g2 g3 g4 g5 g6 g7 h0 h1 h2 h3 HNa
                  go_wp2_with (first
                    | ((with_reducible refine HSmall.out.mono ?_); rintro q w1 ⟨rfl, hB1⟩)
                    | ((with_reducible refine (HKn.out _).mono ?_); rintro q w2 ⟨c, rfl, HRC, HSm, HAu, HKe, hB2⟩; have HV2 : Hid (Below w.heap.size w (w2.alloc (oCn c))) := Lib.hid ((hB1.trans (hB2.mono hB1.size)).alloc (Nat.le_trans hB1.size hB2.size) _); have HN2 : Hid ((w2.alloc (oCn c)).heap[w2.heap.size]? = some (oCn c)) := Lib.hid (heap_alloc_new w2 (oCn c)); have HZ2 : Hid (w2.heap.size < (w2.alloc (oCn c)).heap.size) := Lib.hid (by simp); have HA2 := Lib.hid (auC (HRC.out.below (below_box w2 (oCn c)) (Nat.le_refl _)) (by simp) HSm.out); have HC3 := Lib.hid (HAp.out _ c HA2.out HAu.out); clear hB1 hB2)
                    | ((with_reducible refine HC3.out.mono ?_); rintro q w3 ⟨A3, c3, rfl, HO3, hB3⟩; have HB3 := Lib.hid hB3; clear hB3))
                  have HR3 := Lib.hid HO3.out.pw.rw'
                  clear HC3 HO3 HRC HKn HAp HSmall
                  generalize w2.alloc (oCn c) = V at *
                  go_loopg [11, 13, 14] (t + 1) (fun gh s11 s13 s14 wr => ∃ (j : Nat) (A : Option Addr) (cc : Nat), j ≤ t + 1 ∧ gh = t + 1 - j ∧ s11 = .slice A 1 cc ∧ s13 = .int .i64 ((nT e j : Nat) : Int) ∧ s14 = .int .i64 ((f : Int) + (j : Int)) ∧ Hid (RW ac wr wr.heap.size A [rT f e (f + tk) j]) ∧ Hid (Below V.heap.size V wr))
                  case atStart => exact ⟨0, A3, c3, by omega, rfl, rfl, by rw [nT_zero]; rfl, by simp, HR3, HB3⟩
                  case round =>
                    obtain ⟨j, A, cc, hj, rfl, rfl, rfl, rfl, HR, HW⟩ := hrel
                    have hnj : nT e j ≤ j := nT_le
                    by_cases hjt : j ≤ t
                    · have hjt' : (f : Int) + (j : Int) ≤ (f : Int) + (t : Int) := by omega
                      have hcb := hkeep1 HW.out HZ2.out HN2.out
                      have zb := cellOf1 hcb
                      have lb := lt_blk1 hcb
                      obtain ⟨nd, hnd, hnd1⟩ : ∃ nd : Nat, nT e (j + 1) = nT e j + nd ∧ nd ≤ 1 := by
                        by_cases hh : e * (nT e j + 1) ≤ j
                        · exact ⟨1, nT_next (by omega) hh, Nat.le_refl _⟩
                        · exact ⟨0, nT_same (by omega) hh, by omega⟩
                      have HC := Lib.hid (HTi.out wr c (HA2.out.of HW.out) HAu.out A cc j hjt HR.out nd hnd)
                      have HND := Lib.hid hnd
                      have hnd' : decide ((1 : Int) < (nd : Int)) = false := by simp; omega
                      clear hcb hnd
                      go_wp2_with (first | ((with_reducible refine HC.out.mono ?_); rintro q w4 ⟨A4, c4, A5, c5, rfl, HR4, hB4⟩; have HB4 := Lib.hid hB4; clear hB4))
                      go_roundg (t + 1 - (j + 1))
                      case measure => omega
                      case rel => exact ⟨j + 1, A4, c4, by omega, rfl, rfl, by rw [HND.out]; go_num, by go_num, HR4, Lib.hid (HW.out.trans (HB4.out.mono HW.out.size))⟩
                    · have hjt' : decide ((f : Int) + (j : Int) ≤ (f : Int) + (t : Int)) = false := by simp; omega
                      have hje : j = t + 1 := by omega
                      subst hje
                      have hq : ((nT e (t + 1) : Nat) : Int) = Int.tdiv (t : Int) (e : Int) := by
                        unfold nT; rw [Nat.add_sub_cancel]; exact (Int.ofNat_tdiv t e)
                      have hq2 : ((nT e (t + 1) : Nat) : Int) == Int.tdiv (t : Int) (e : Int) := by rw [hq]; simp
                      have hdv : (t : Int) / (e : Int) = ((t / e : Nat) : Int) := rfl
                      have hdl : t / e ≤ t := Nat.div_le_self _ _
                      have hwr : wrap64 ((t : Int) / (e : Int)) = (t : Int) / (e : Int) := by rw [hdv]; generalize t / e = q at hdl ⊢; exact IntWalk.wrap64_in _ (by omega)
                      clear hdv hdl
                      go_wp2
                      go_ret
                      exact ⟨rfl, HV2.out.trans (HW.out.mono HV2.out.size)⟩


set_option maxRecDepth 100000 in
theorem lifted (os : Os) (started : os.Started) (H : Type) (enc : TypeId × Value → H) :
    ReturnsInHanded {} Try.checked os 6 .any (Rows.auraTicksSpec.pre6 enc Try.prog Try.f6 Rows.auraTicksRow.domain false) (Rows.auraTicksSpec.post enc Try.prog Try.f6 false true false false) := by
  refine returnsInHanded_of_change (C := Try.checked) own started (by kernel_rfl) Try.func6
    (ChangeSpec.witness6 (enc := enc) (C := Try.checked) false ⟨#[], #[.int .i64 0, .int .i64 0, .int .i64 0, .int .i64 0], []⟩ 8 (by kernel_rfl) (by kernel_rfl) (by kernel_rfl) (by kernel_rfl)) ?_
  intro W base args ds gs before hval0 hW hcnd _
  have hval : ∀ (j : Nat) t v, Try.f6.params[j]? = some t → args[j]? = some v → Value.okWide Try.prog W .any base t v := hval0
  have hW' := hW
  obtain ⟨p, q, hA0, hV, rfl, hfz, hnd⟩ := hW
  have hA : DataW.TrodAll enc Try.prog W 0 (fun _ => true) true Try.f6.params.toList args.toList ds p := hA0
  rw [Try.params6] at hA hval
  obtain ⟨v0, vs0, d0, ds0, p0, q0, hargs, rfl, rfl, h0, r0⟩ := trodAll_cons hA
  obtain ⟨v1, vs1, d1, ds1, p1, q1, rfl, rfl, rfl, h1, r1⟩ := trodAll_cons r0
  obtain ⟨v2, vs2, d2, ds2, p2, q2, rfl, rfl, rfl, h2, r2⟩ := trodAll_cons r1
  obtain ⟨v3, vs3, d3, ds3, p3, q3, rfl, rfl, rfl, h3, r3⟩ := trodAll_cons r2
  obtain ⟨rfl, rfl, rfl⟩ := trodAll_nil r3
  obtain rfl : args = #[v0, v1, v2, v3] := by cases args; simp_all
  obtain ⟨rfl, rfl⟩ := trodVars_none hV
  clear hA0 hval0
  obtain ⟨a0, rfl, rfl, rfl, w0⟩ := open_int Try.underlying3 (hval 0 3 v0 rfl rfl) h0
  obtain ⟨a1, rfl, rfl, rfl, w1⟩ := open_int Try.underlying3 (hval 1 3 v1 rfl rfl) h1
  obtain ⟨a2, rfl, rfl, rfl, w2⟩ := open_int Try.underlying3 (hval 2 3 v2 rfl rfl) h2
  obtain ⟨a3, rfl, rfl, rfl, w3⟩ := open_int Try.underlying3 (hval 3 3 v3 rfl rfl) h3
  simp only [List.append_nil] at hW'
  refine (walk W a0 (Kop.fits_of w0) a1 (Kop.fits_of w1) a2 (Kop.fits_of w2) a3 (Kop.fits_of w3)).mono fun e W' ⟨he, hg⟩ => ?_
  subst he
  exact ⟨_, rfl, _, _, _, [], _, [], hW', (trodAll_cons_mk (shut_bool Try.underlying4 _) trodAll_mk0), (trodAll_cons_mk (shut_int Try.underlying3 w0) (trodAll_cons_mk (shut_int Try.underlying3 w1) (trodAll_cons_mk (shut_int Try.underlying3 w2) (trodAll_cons_mk (shut_int Try.underlying3 w3) trodAll_mk0)))), rfl, hg.frame _, fun h => by cases h⟩

theorem over : Rows.auraTicksRow.holds Try.pinned (OpenSpec.ofChange Rows.auraTicksSpec) :=
  OpenClaim.holds_of_wide 6 Try.f6 rfl rfl rfl rfl rfl rfl rfl ⟨rfl, rfl, rfl, rfl, rfl⟩ rfl rfl rfl rfl rfl (by kernel_rfl) Try.func6 (by kernel_rfl)
    (of_decide_eq_true (by kernel_rfl)) (by unfold Func.isWrapper; first | (rw [if_pos (by decide +kernel)]; kernel_rfl) | (rw [if_neg (by decide +kernel)]; exact ⟨rfl, rfl⟩))
    (fun os started H enc _ => lifted os started H enc)

/-- The given statement. -/
theorem proved : Rows.AuraTicksSaid :=
  over
#print axioms proved
end Go.Proofs.Ytijobbdgiaiocaa.auraTicks
