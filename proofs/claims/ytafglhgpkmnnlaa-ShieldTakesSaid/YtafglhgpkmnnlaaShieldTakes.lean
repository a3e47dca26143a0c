/-
  The law ShieldTakes answers true for every row of shields and every number: the program's Take and Left are the document's own, what was handed in is not changed, and what was answered may be written over.
-/
import Derived.Test.YtafglhgpkmnnlaaSma
import Derived.Test.YtafglhgpkmnnlaaKop
import Derived.WalkKit
import Derived.ProofKit
import Derived.OpenShut
namespace Go.Proofs.Ytafglhgpkmnnlaa.shieldTakes
open Go.ChangeShapes Go.WideShapes Go.ChangeAt Go.RowKit Con
set_option linter.unusedVariables false

theorem own : ownKnob Try.prog.godebug = none := by kernel_rfl

theorem two_a {w V : World} {A1 A2 : Option Addr} {n1 n2 c1 c2 : Nat} {L : List Sh} {G : List Int} (h : Two sh nu w V w.heap.size (.slice A1 n1 c1) (.slice A2 n2 c2) L G) : RW sh V V.heap.size A1 L ∧ RW nu V V.heap.size A2 G := by
  obtain ⟨A, c, e, hr, _⟩ := h.a.shape
  injection e with e
  subst e
  obtain ⟨A', c', e', hr', _⟩ := h.b.shape
  injection e' with e'
  subst e'
  exact ⟨hr, hr'⟩
theorem tk_eq {l : List Sh} {n : Int} {L L' : List Sh} {m m' : Int} {G G' : List Int} (h : takeI l n = (L, m, G)) (h' : takeI l n = (L', m', G')) : L' = L ∧ m' = m ∧ G' = G := by
  rw [h] at h'
  injection h' with e1 e2
  injection e2 with e2 e3
  exact ⟨e1.symm, e2.symm, e3.symm⟩
/-- What lies there behind the calls: the copy, the two rows that the program made, the two of the document's. -/
structure TX (w V : World) (A A0 A1 A2 A3 A4 : Option Addr) (base : Nat) (l L : List Sh) (G : List Int) : Prop where
  b : Below w.heap.size w V
  rl : RW sh V base A l
  cp : RW sh V base A0 l
  ra : RW sh V V.heap.size A1 L
  rg : RW nu V V.heap.size A2 G
  ra' : RW sh V V.heap.size A3 L
  rg' : RW nu V V.heap.size A4 G
  mw : MW V base A1 (L.length * 2)
  le : base ≤ V.heap.size
theorem TX.of {w V V' : World} {A A0 A1 A2 A3 A4 : Option Addr} {base : Nat} {l L : List Sh} {G : List Int} (h : TX w V A A0 A1 A2 A3 A4 base l L G) (hb : Below V.heap.size V V') : TX w V' A A0 A1 A2 A3 A4 base l L G :=
  ⟨below_more h.b hb h.b.size, h.rl.below hb h.le, h.cp.below hb h.le, (h.ra.below hb (Nat.le_refl _)).more hb.size, (h.rg.below hb (Nat.le_refl _)).more hb.size, (h.ra'.below hb (Nat.le_refl _)).more hb.size, (h.rg'.below hb (Nat.le_refl _)).more hb.size, h.mw.of hb, Nat.le_trans h.le hb.size⟩
theorem TX.start {w w2 w3 w4 : World} {A A0 A1 A2 A3 A4 : Option Addr} {c1 c2 c3 c4 n1 n2 n3 n4 : Nat} {l L : List Sh} {G : List Int} (hb : Below w.heap.size w w2) (hr : RW sh w w.heap.size A l) (hc : RW sh w2 w2.heap.size A0 l) (h : Two sh nu w2 w3 w2.heap.size (.slice A1 n1 c1) (.slice A2 n2 c2) L G) (h' : Two sh nu w3 w4 w3.heap.size (.slice A3 n3 c3) (.slice A4 n4 c4) L G) : TX w w4 A A0 A1 A2 A3 A4 w2.heap.size l L G := by
  obtain ⟨r1, r2⟩ := two_a h
  obtain ⟨r3, r4⟩ := two_a h'
  have b3 := below_more hb h.below hb.size
  have b4 := below_more b3 h'.below b3.size
  have b24 := below_more h.below h'.below h.top
  exact ⟨b4, (hr.below b4 (Nat.le_refl _)).more hb.size, hc.below b24 (Nat.le_refl _), (r1.below h'.below (Nat.le_refl _)).more h'.top, (r2.below h'.below (Nat.le_refl _)).more h'.top, r3, r4, (h.a.mw).of h'.below, Nat.le_trans h.top h'.top⟩
/-- At the head of a round of the loop that writes over what was answered. -/
structure TY (w V : World) (A A0 A1 : Option Addr) (base : Nat) (l : List Sh) (m : Nat) : Prop where
  b : Below w.heap.size w V
  rl : RW sh V base A l
  cp : RW sh V base A0 l
  mw : MW V base A1 m
  lo : w.heap.size ≤ base
  le : base ≤ V.heap.size
theorem TY.set {w V : World} {A A0 : Option Addr} {b base o m : Nat} {l : List Sh} (h : TY w V A A0 (some ⟨b, 0, none⟩) base l m) (hb : base ≤ b) (u : Value) : TY w (V.setCell ⟨b, o, none⟩ u) A A0 (some ⟨b, 0, none⟩) base l m := by
  have hbb : Below base V (V.setCell ⟨b, o, none⟩ u) := (Below.refl _ V).setCell (p := ⟨b, o, none⟩) hb u
  exact ⟨h.b.setCell (p := ⟨b, o, none⟩) (Nat.le_trans h.lo hb) u, h.rl.below hbb (Nat.le_refl _), h.cp.below hbb (Nat.le_refl _), h.mw.set b o u, h.lo, by simpa using h.le⟩

set_option maxRecDepth 20000 in
set_option maxHeartbeats 4000000 in
theorem walk (w : World) (A : Option Addr) (c : Nat) (l : List Sh) (hr : RW sh w w.heap.size A l) (hf : ∀ x ∈ l, FSh x) (n : Int) (hn : Fits n) :
    Calls Try.prog 3 #[.slice A l.length c, .int .i64 n] w fun e w' => e = .returned (.bool true) ∧ Below w.heap.size w w' := by
  have HR := Lib.hid hr; have HF := Lib.hid hf; have HN := Lib.hid hn
  clear hr hf
  obtain ⟨N, hN⟩ : ∃ N, l.length = N := ⟨_, rfl⟩
  have HLN := Lib.hid hN
  rw [hN]
  clear hN
  by_cases hbig : 200 < (N : Int)
  · go_enter Try.func3, Try.ntmps3
    go_wp2_with ((with_reducible refine (small_any _).mono ?_); rintro e w1 ⟨rfl, hB1⟩)
    go_ret
    exact ⟨rfl, hB1⟩
  · have hbig' : decide (200 < (N : Int)) = false := by simpa using hbig
    have hb2 : (N : Int) ≤ 200 := by omega
    have HL0 : Hid (([] : List Sh).length + l.length ≤ 1000000) := Lib.hid (by rw [HLN.out]; simp; omega)
    obtain ⟨p, hp⟩ : ∃ p, leftI l = p := ⟨_, rfl⟩
    have HLe : Hid (∀ V A c B, RW sh V B A l → B ≤ V.heap.size → Calls Try.prog 11 #[.slice A N c] V fun e w' => e = .returned (.int .i64 p) ∧ Below V.heap.size V w') := Lib.hid (fun V A c B hr hB => by rw [← hp]; exact left_any A c l N _ V HLN.out hr HF.out hB (by omega))
    have HRLe : Hid (∀ V A c B, RW sh V B A l → Calls Try.prog 12 #[.slice A N c] V fun e w' => e = .returned (.int .i64 p) ∧ V = w') := Lib.hid (fun V A c B hr => by rw [← hp]; exact rleft_any A c l N _ V HLN.out hr HF.out (by omega))
    clear hp
    have HTk : Hid (∀ V A c B, RW sh V B A l → B ≤ V.heap.size → Calls Try.prog 7 #[.slice A N c, .int .i64 n] V (TkA V l n)) := Lib.hid (fun V A c B hr hB => take_any A c l N B n V HLN.out hr HF.out hB (by omega) HN.out)
    have HRTk : Hid (∀ V A c B, RW sh V B A l → B ≤ V.heap.size → Calls Try.prog 8 #[.slice A N c, .int .i64 n] V (TkA V l n)) := Lib.hid (fun V A c B hr hB => rtake_any A c l N B n V HLN.out hr HF.out hB (by omega) HN.out)
    go_enter Try.func3, Try.ntmps3
    go_wp2_with (first
      | ((with_reducible refine (small_any _).mono ?_); rintro e w1 ⟨rfl, hB1⟩; have HB1 := Lib.hid hB1; have HB1a := Lib.hid (hB1.trans ((below_box w1 (.cells #[] 31)).mono hB1.size)); have HO1 := Lib.hid (OW.room sh w1); clear hB1)
      | (at_builtin; refine wpList_app sh rfl 22 rfl (.tmp 20) (.tmp 21) rfl w1.heap.size w.heap.size (.slice (some ⟨w1.heap.size, 0, none⟩) 0 0) [] l A c N HLN.out rfl rfl HO1.out (HR.out.below HB1a.out (Nat.le_refl _)) HL0.out (by simp) ?_; intro A0 c0 w2 lm HLM HO2 HS2 HBB2))
    have hlm : lm = l := by have := HLM.out; simpa using this
    subst hlm
    have HZ1 := Lib.hid HB1.out.size
    have HB2 := Lib.hid (HB1a.out.grown HS2.out HB1a.out.size (fun j hj => by simp [Value.ownBlock] at hj; subst hj; exact HZ1.out))
    have HCP : Hid (RW sh w2 w2.heap.size A0 lm) := Lib.hid (by
      obtain ⟨A', c', e, hr, _⟩ := HO2.out.shape
      injection e with e
      subst e
      exact hr)
    rw [HLN.out]
    have HSM : Hid (∀ V A A' c c' B B', RW sh V B A lm → RW sh V B' A' lm → Calls Try.prog 9 #[.slice A N c, .slice A' N c'] V fun e w' => e = .returned (.bool true) ∧ Below V.heap.size V w') := Lib.hid (fun V A A' c c' B B' h h' => same_shB B B' A A' N c c' lm V HLN.out h h' (by omega))
    clear HLM HO2 HS2 HBB2 HB1a HO1 HL0
    (with_reducible refine (HTk.out _ _ _ _ HCP.out (Nat.le_refl _)).mono ?_); rintro e w3 ⟨A1, c1, L, m, A2, c2, G, rfl, h1, h2⟩
    have HB3 := Lib.hid (below_more HB2.out h2.out.below HB2.out.size)
    have HRl := Lib.hid (HR.out.below HB3.out (Nat.le_refl _))
    have HLL : Hid (L.length ≤ N) := Lib.hid (by have := take_len lm n; rw [h1.out, HLN.out] at this; simp only at this; omega)
    have HGL : Hid (G.length ≤ N) := Lib.hid (by have := take_len lm n; rw [h1.out, HLN.out] at this; simp only at this; omega)
    have HH1 := Lib.hid h1.out; have HH2 := Lib.hid h2.out
    clear h1 h2
    go_wp2_with (fail)
    (with_reducible refine (HRTk.out _ _ _ _ HRl.out HB3.out.size).mono ?_); rintro e w4 ⟨A3, c3, L', m', A4, c4, G', rfl, h3, h4⟩
    obtain ⟨rfl, rfl, rfl⟩ := tk_eq HH1.out h3.out
    have HX4 := Lib.hid (TX.start HB2.out HR.out HCP.out HH2.out h4.out)
    obtain ⟨la, hla⟩ : ∃ la, L'.length = la := ⟨_, rfl⟩
    obtain ⟨lg, hlg⟩ : ∃ lg, G'.length = lg := ⟨_, rfl⟩
    have HLA := Lib.hid hla; have HLG := Lib.hid hlg
    have hla2 : la ≤ N := by rw [← hla]; exact HLL.out
    have hlg2 : lg ≤ N := by rw [← hlg]; exact HGL.out
    have HMA : Hid (∀ V A A' c c' B B', RW sh V B A L' → RW sh V B' A' L' → Calls Try.prog 9 #[.slice A la c, .slice A' la c'] V fun e w' => e = .returned (.bool true) ∧ Below V.heap.size V w') := Lib.hid (fun V A A' c c' B B' h h' => same_shB B B' A A' la c c' L' V HLA.out h h' (by omega))
    have HMG : Hid (∀ V A A' c c' B B', RW nu V B A G' → RW nu V B' A' G' → Calls Try.prog 10 #[.slice A lg c, .slice A' lg c'] V fun e w' => e = .returned (.bool true) ∧ Below V.heap.size V w') := Lib.hid (fun V A A' c c' B B' h h' => same_nuB B B' A A' lg c c' G' V HLG.out h h' (by omega))
    rw [hla, hlg]
    clear hla hlg h3 h4 HH1 HH2 HLL HGL HRl HTk HRTk
    have HZ2 := Lib.hid HB2.out.size
    generalize w2.heap.size = base at HX4 HZ2
    clear HCP HB2 HB3
    go_wp2_with (first
      | ((with_reducible refine (HMA.out _ _ _ _ _ _ _ HX4.out.ra HX4.out.ra').mono ?_); rintro e w5 ⟨rfl, hB5⟩; have HX5 := Lib.hid (HX4.out.of hB5); clear hB5)
      | ((with_reducible refine (HMG.out _ _ _ _ _ _ _ HX5.out.rg HX5.out.rg').mono ?_); rintro e w6 ⟨rfl, hB6⟩; have HX6 := Lib.hid (HX5.out.of hB6); clear hB6)
      | ((with_reducible refine (HLe.out _ _ _ _ HX6.out.cp HX6.out.le).mono ?_); rintro e w7 ⟨rfl, hB7⟩; have HX7 := Lib.hid (HX6.out.of hB7); clear hB7)
      | ((with_reducible refine (HRLe.out _ _ _ _ HX7.out.rl).mono ?_); rintro e w8 ⟨rfl, rfl⟩))
    have HY : Hid (TY w w7 A A0 A1 base lm (la * 2)) := Lib.hid ⟨HX7.out.b, HX7.out.rl, HX7.out.cp, by have := HX7.out.mw; rwa [HLA.out] at this, HZ2.out, HX7.out.le⟩
    clear HX4 HX5 HX6 HX7
    go_loopg [14] la (fun gh s14 wr => ∃ k : Nat, k ≤ la ∧ gh = la - k ∧ s14 = .int .i64 k ∧ Hid (TY w wr A A0 A1 base lm (la * 2)))
    case atStart => exact ⟨0, by omega, rfl, rfl, HY⟩
    case round =>
      obtain ⟨k, hk, rfl, rfl, HY⟩ := hrel
      by_cases hlt : k < la
      · obtain ⟨b, rfl, hb, hbl, ⟨v, hv⟩, hfz⟩ := HY.out.mw.at' (i := k * 2 + 1) (by omega)
        have hlt' : (k : Int) < la := by omega
        have HYs := Lib.hid (HY.out.set (o := k * 2 + 1) hb (.int .i64 (-7)))
        go_wp2
        go_roundg (la - (k + 1))
        case measure => omega
        case rel => exact ⟨k + 1, by omega, rfl, by go_num, HYs⟩
      · have hlt' : decide (k < la) = false := by simp; omega
        go_wp2_with ((with_reducible refine (HSM.out _ _ _ _ _ _ _ HY.out.cp HY.out.rl).mono ?_); rintro e w9 ⟨rfl, hB9⟩; have HB9 := Lib.hid (below_more HY.out.b hB9 HY.out.b.size))
        go_ret
        exact ⟨rfl, HB9.out⟩


set_option maxRecDepth 100000 in
theorem lifted (os : Os) (started : os.Started) (H : Type) (enc : TypeId × Value → H) :
    ReturnsInHanded {} Try.checked os 3 .any (Rows.shieldTakesSpec.pre6 enc Try.prog Try.f3 Rows.shieldTakesRow.domain false) (Rows.shieldTakesSpec.post enc Try.prog Try.f3 false true false false) := by
  refine returnsInHanded_of_change (C := Try.checked) own started (by kernel_rfl) Try.func3
    (ChangeSpec.witness6 (enc := enc) (C := Try.checked) false ⟨#[], #[.slice none 0 0, .int .i64 0], []⟩ 8 (by kernel_rfl) (by kernel_rfl) (by kernel_rfl) (by kernel_rfl)) ?_
  intro W base args ds gs before hval0 hW hcnd _
  have hval : ∀ (j : Nat) t v, Try.f3.params[j]? = some t → args[j]? = some v → Value.okWide Try.prog W .any base t v := hval0
  have hW' := hW
  obtain ⟨p, q, hA0, hV, rfl, hfz, hnd⟩ := hW
  have hA : DataW.TrodAll enc Try.prog W 0 (fun _ => true) true Try.f3.params.toList args.toList ds p := hA0
  rw [Try.params3] at hA hval
  obtain ⟨v0, vs0, d0, ds0, p0, q0, hargs, rfl, rfl, h0, r0⟩ := trodAll_cons hA
  obtain ⟨v1, vs1, d1, ds1, p1, q1, rfl, rfl, rfl, h1, r1⟩ := trodAll_cons r0
  obtain ⟨rfl, rfl, rfl⟩ := trodAll_nil r1
  obtain rfl : args = #[v0, v1] := by cases args; simp_all
  obtain ⟨rfl, rfl⟩ := trodVars_none hV
  clear hA0 hval0
  have hlt0 : ∀ x ∈ p0, x.block < W.heap.size := fun x hx => hW'.lt x (by simp [hx])
  have hk0 := h0
  obtain ⟨A0, c0, l0, rfl, hr0, hf0⟩ := Kop.viewSh (hval 0 22 v0 rfl rfl) h0
  obtain ⟨a1, rfl, rfl, rfl, w1⟩ := open_int Try.underlying3 (hval 1 3 v1 rfl rfl) h1
  simp only [List.append_nil] at hW'
  refine (walk W A0 c0 l0 hr0 hf0 a1 (Kop.fits_of w1)).mono fun e W' ⟨he, hg⟩ => ?_
  subst he
  exact ⟨_, rfl, _, _, _, [], _, [], hW', (trodAll_cons_mk (shut_bool Try.underlying4 _) trodAll_mk0), (trodAll_cons_mk (Below.trod Kop.laidOut (by kernel_rfl) (of_decide_eq_true (by kernel_rfl)) hk0 hg hlt0) (trodAll_cons_mk (shut_int Try.underlying3 w1) trodAll_mk0)), rfl, hg.frame _, fun h => by cases h⟩

theorem over : Rows.shieldTakesRow.holds Try.pinned (OpenSpec.ofChange Rows.shieldTakesSpec) :=
  OpenClaim.holds_of_wide 3 Try.f3 rfl rfl rfl rfl rfl rfl rfl ⟨rfl, rfl, rfl, rfl, rfl⟩ rfl rfl rfl rfl rfl (by kernel_rfl) Try.func3 (by kernel_rfl)
    (of_decide_eq_true (by kernel_rfl)) (by unfold Func.isWrapper; first | (rw [if_pos (by decide +kernel)]; kernel_rfl) | (rw [if_neg (by decide +kernel)]; exact ⟨rfl, rfl⟩))
    (fun os started H enc _ => lifted os started H enc)

/-- The given statement. -/
theorem proved : Rows.ShieldTakesSaid :=
  over
#print axioms proved
end Go.Proofs.Ytafglhgpkmnnlaa.shieldTakes
