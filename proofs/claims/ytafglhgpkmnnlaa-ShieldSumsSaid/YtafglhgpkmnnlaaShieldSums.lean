/-
  The law ShieldSums answers true for every row of shields and every number: what is taken away and what is left are n together, and what is left of the shields is less by that.
-/
import Derived.Test.YtafglhgpkmnnlaaSma
import Derived.Test.YtafglhgpkmnnlaaKop
import Derived.WalkKit
import Derived.ProofKit
import Derived.OpenShut
namespace Go.Proofs.Ytafglhgpkmnnlaa.shieldSums
open Go.ChangeShapes Go.WideShapes Go.ChangeAt Go.RowKit Con
set_option linter.unusedVariables false

theorem own : ownKnob Try.prog.godebug = none := by kernel_rfl

theorem two_rw {w V : World} {A1 A2 : Option Addr} {n1 n2 c1 c2 : Nat} {L : List Sh} {G : List Int} (h : Two sh nu w V w.heap.size (.slice A1 n1 c1) (.slice A2 n2 c2) L G) : RW sh V V.heap.size A1 L ∧ RW nu V V.heap.size A2 G := by
  obtain ⟨A, c, e, hr, _⟩ := h.a.shape
  injection e with e
  subst e
  obtain ⟨A', c', e', hr', _⟩ := h.b.shape
  injection e' with e'
  subst e'
  exact ⟨hr, hr'⟩
theorem fits_amts {l : List Sh} (hf : ∀ x ∈ l, FSh x) {n : Int} {L : List Sh} {m : Int} {G : List Int} (h : takeI l n = (L, m, G)) (hn : Fits n) : ∀ x ∈ L, FSh x := by
  have key : ∀ (l p : List Sh) (s : List Sh × Int × List Int), (∀ x ∈ l, FSh x) → 0 ≤ s.2.1 → (∀ x ∈ s.1, FSh x) → ∀ x ∈ (l.foldl stp s).1, FSh x := by
    intro l
    induction l with
    | nil => intro p s _ _ h; exact h
    | cons y r ih =>
      intro p s hl h0 hs
      have hy := hl y (by simp)
      refine ih p (stp s y) (fun z hz => hl z (by simp [hz])) ?_ ?_
      · unfold stp
        split
        · exact Int.le_refl _
        · simp only; split <;> omega
      · unfold stp
        split
        · intro z hz
          rcases List.mem_append.1 hz with hz | hz
          · exact hs z hz
          · simp at hz
            subst hz
            obtain ⟨h1, h2, h3⟩ := hy
            unfold Fits at h2
            exact ⟨h1, ⟨by simp only; omega, by simp only; omega⟩, trivial⟩
        · exact hs
  by_cases h1 : n < 1
  · rw [take_low h1] at h
    injection h with h
    subst h
    exact hf
  · rw [take_high h1] at h
    have := key l [] ([], n, []) hf (by simp only; omega) (by simp)
    have e : l.foldl stp ([], n, []) = (L, m, G) := h
    rw [e] at this
    exact this
/-- Up to k all are amounts. -/
theorem amts_next {l : List Sh} {k : Nat} {x : Sh} (hx : l[k]? = some x) (h : Amts (l.take k)) (h1 : 0 ≤ x.left) (h2 : x.left ≤ 1000000) : Amts (l.take (k + 1)) := by
  intro y hy
  rw [List.take_add_one, hx] at hy
  rcases List.mem_append.1 hy with hy | hy
  · exact h y hy
  · simp at hy; subst hy; exact ⟨h1, h2⟩

set_option maxRecDepth 20000 in
set_option maxHeartbeats 4000000 in
theorem walk (w : World) (A : Option Addr) (c : Nat) (l : List Sh) (hr : RW sh w w.heap.size A l) (hf : ∀ x ∈ l, FSh x) (n : Int) (hn : Fits n) :
    Calls Try.prog 5 #[.slice A l.length c, .int .i64 n] w fun e w' => e = .returned (.bool true) ∧ Below w.heap.size w w' := by
  have HR := Lib.hid hr; have HF := Lib.hid hf; have HN := Lib.hid hn
  clear hr hf
  obtain ⟨N, hN⟩ : ∃ N, l.length = N := ⟨_, rfl⟩
  have HLN := Lib.hid hN
  rw [hN]
  clear hN
  by_cases hbig : 200 < (N : Int)
  · go_enter Try.func5, Try.ntmps5
    go_wp2_with ((with_reducible refine (small_any _).mono ?_); rintro e w1 ⟨rfl, hB1⟩)
    go_ret
    exact ⟨rfl, hB1⟩
  · have hbig' : decide (200 < (N : Int)) = false := by simpa using hbig
    by_cases hlow : n < 0
    · go_enter Try.func5, Try.ntmps5
      go_wp2_with ((with_reducible refine (small_any _).mono ?_); rintro e w1 ⟨rfl, hB1⟩)
      go_ret
      exact ⟨rfl, hB1⟩
    · have hlow' : decide (n < 0) = false := by simpa using hlow
      by_cases hhi : 1000000 < n
      · go_enter Try.func5, Try.ntmps5
        go_wp2_with ((with_reducible refine (small_any _).mono ?_); rintro e w1 ⟨rfl, hB1⟩)
        go_ret
        exact ⟨rfl, hB1⟩
      · have hhi' : decide (1000000 < n) = false := by simpa using hhi
        go_enter Try.func5, Try.ntmps5
        go_wp2_with ((with_reducible refine (small_any _).mono ?_); rintro e w1 ⟨rfl, hB1⟩; have HB1 := Lib.hid hB1; clear hB1)
        have HRW := Lib.hid (HR.out.below HB1.out (Nat.le_refl _))
        have HZ := Lib.hid HB1.out.size
        go_loopg [6] N (fun gh s6 wr => ∃ k : Nat, k ≤ N ∧ gh = N - k ∧ s6 = .int .i64 k ∧ Hid (Amts (l.take k)) ∧ wr = w1)
        case atStart => exact ⟨0, by omega, rfl, rfl, Lib.hid (by intro x hx; simp at hx), rfl⟩
        case round =>
          obtain ⟨k, hk, rfl, rfl, HA, rfl⟩ := hrel
          by_cases hlt : k < N
          · obtain ⟨x, hx⟩ : ∃ x, l[k]? = some x := ⟨_, List.getElem?_eq_getElem (by rw [HLN.out]; exact hlt)⟩
            obtain ⟨b, off, rfl, _, hc⟩ := HRW.out.at' hx
            obtain ⟨c0, c1⟩ := cellsSh (o := off + k * 2) hc
            have HX := Lib.hid hx
            clear hx hc
            have hlt' : (k : Int) < N := by omega
            by_cases hx0 : x.left < 0
            · go_wp2
              go_ret
              exact ⟨rfl, HB1.out⟩
            · have hx0' : decide (x.left < 0) = false := by simpa using hx0
              by_cases hx1 : 1000000 < x.left
              · go_wp2
                go_ret
                exact ⟨rfl, HB1.out⟩
              · have hx1' : decide (1000000 < x.left) = false := by simpa using hx1
                have HA2 := Lib.hid (amts_next HX.out HA.out (by omega) (by omega))
                go_wp2
                go_roundg (N - (k + 1))
                case measure => omega
                case rel => exact ⟨k + 1, by omega, rfl, by go_num, HA2, rfl⟩
          · have hlt' : decide ((k : Int) < N) = false := by simp; omega
            have HAm : Hid (Amts l) := Lib.hid (by have := HA.out; rwa [List.take_of_length_le (by rw [HLN.out]; omega)] at this)
            have HS : Hid (∀ (L : List Sh) (m : Int) (G : List Int), takeI l n = (L, m, G) → 0 ≤ m ∧ m ≤ n ∧ leftI l - leftI L = n - m ∧ (m = 0 ∨ leftI L = 0) ∧ L.length + G.length = l.length ∧ 0 ≤ leftI L ∧ leftI L ≤ 200000000 ∧ 0 ≤ leftI l ∧ leftI l ≤ 200000000) := Lib.hid (fun L m G e => sums HAm.out (by rw [HLN.out]; omega) (by omega) e)
            have HT := Lib.hid (take_any A c l N _ n wr HLN.out HRW.out HF.out HZ.out (by omega) HN.out)
            have HP := Lib.hid (fun (L : List Sh) (m : Int) (G : List Int) (e : takeI l n = (L, m, G)) => fits_amts HF.out e HN.out)
            have hltN : decide (k < N) = false := by simp; omega
            have HLe : Hid (∀ V, Below w.heap.size w V → Calls Try.prog 11 #[.slice A N c] V fun e w' => e = .returned (.int .i64 (leftI l)) ∧ Below V.heap.size V w') := Lib.hid (fun V hV => left_any A c l N _ V HLN.out (HR.out.below hV (Nat.le_refl _)) HF.out hV.size (by omega))
            generalize leftI l = p at HLe HS
            go_wp2_with (fail)
            (with_reducible refine HT.out.mono ?_); rintro e w2 ⟨A1, c1, L, m, A2, c2, G, rfl, h1, h2⟩
            obtain ⟨g1, g2, g3, g4, g5, g6, g7, g8, g9⟩ := HS.out L m G h1.out
            have hw2 : Below w.heap.size w w2 := HB1.out.trans (h2.out.below.mono HZ.out)
            have HB2 := Lib.hid hw2
            have HLF := Lib.hid (HP.out L m G h1.out)
            have HRL := Lib.hid (two_rw h2.out).1
            have hN1 : L.length ≤ N := by have := HLN.out; omega
            have HLe2 : Hid (∀ V, Below w2.heap.size w2 V → Calls Try.prog 11 #[.slice A1 L.length c1] V fun e w' => e = .returned (.int .i64 (leftI L)) ∧ Below V.heap.size V w') := Lib.hid (fun V hV => left_any A1 c1 L L.length _ V rfl (HRL.out.below hV (Nat.le_refl _)) HLF.out hV.size (by omega))
            generalize leftI L = q at *
            have g5' : (L.length : Int) + (G.length : Int) = (N : Int) := by have := HLN.out; omega
            generalize L.length = a at *
            generalize G.length = bb at *
            clear h1 h2 HLF HRL HT HP HS HA HAm hlt hlt' hk g5
            have g5'' : ((a : Int) + (bb : Int) == (N : Int)) = true := by rw [g5']; simp
            have b1 : (a : Int) ≤ 200 := by omega
            have b2 : (bb : Int) ≤ 200 := by omega
            have H5 := Lib.hid g5'
            clear g5'
            rcases g4 with h0 | h0
            · subst h0
              have hE : p - q = n := by omega
              clear g3
              go_wp2_with (first
                | ((with_reducible refine (HLe.out _ HB2.out).mono ?_); rintro e w3 ⟨rfl, hB3⟩; have HB3 := Lib.hid hB3; have HB4 := Lib.hid (below_more HB2.out hB3 HB2.out.size); clear hB3)
                | ((with_reducible refine (HLe2.out _ HB3.out).mono ?_); rintro e w4 ⟨rfl, hB4⟩; have HB5 := Lib.hid (below_more HB4.out hB4 HB4.out.size); clear hB4))
              go_ret
              exact ⟨rfl, HB5.out⟩
            · subst h0
              have hE : p = n - m := by omega
              clear g3
              go_wp2_with (first
                | ((with_reducible refine (HLe.out _ HB2.out).mono ?_); rintro e w3 ⟨rfl, hB3⟩; have HB3 := Lib.hid hB3; have HB4 := Lib.hid (below_more HB2.out hB3 HB2.out.size); clear hB3)
                | ((with_reducible refine (HLe2.out _ HB3.out).mono ?_); rintro e w4 ⟨rfl, hB4⟩; have HB5 := Lib.hid (below_more HB4.out hB4 HB4.out.size); clear hB4))
              all_goals (go_ret; exact ⟨rfl, HB5.out⟩)


set_option maxRecDepth 100000 in
theorem lifted (os : Os) (started : os.Started) (H : Type) (enc : TypeId × Value → H) :
    ReturnsInHanded {} Try.checked os 5 .any (Rows.shieldSumsSpec.pre6 enc Try.prog Try.f5 Rows.shieldSumsRow.domain false) (Rows.shieldSumsSpec.post enc Try.prog Try.f5 false true false false) := by
  refine returnsInHanded_of_change (C := Try.checked) own started (by kernel_rfl) Try.func5
    (ChangeSpec.witness6 (enc := enc) (C := Try.checked) false ⟨#[], #[.slice none 0 0, .int .i64 0], []⟩ 8 (by kernel_rfl) (by kernel_rfl) (by kernel_rfl) (by kernel_rfl)) ?_
  intro W base args ds gs before hval0 hW hcnd _
  have hval : ∀ (j : Nat) t v, Try.f5.params[j]? = some t → args[j]? = some v → Value.okWide Try.prog W .any base t v := hval0
  have hW' := hW
  obtain ⟨p, q, hA0, hV, rfl, hfz, hnd⟩ := hW
  have hA : DataW.TrodAll enc Try.prog W 0 (fun _ => true) true Try.f5.params.toList args.toList ds p := hA0
  rw [Try.params5] at hA hval
  obtain ⟨v0, vs0, d0, ds0, p0, q0, hargs, rfl, rfl, h0, r0⟩ := trodAll_cons hA
  obtain ⟨v1, vs1, d1, ds1, p1, q1, rfl, rfl, rfl, h1, r1⟩ := trodAll_cons r0
  obtain ⟨rfl, rfl, rfl⟩ := trodAll_nil r1
  obtain rfl : args = #[v0, v1] := by cases args; simp_all
  obtain ⟨rfl, rfl⟩ := trodVars_none hV
  clear hA0 hval0
  have hlt0 : ∀ x ∈ p0, x.block < W.heap.size := fun x hx => hW'.lt x (by simp [hx])
  have hk0 := h0
  obtain ⟨A0, c0, l0, rfl, hr0, hf0⟩ := Kop.viewSh (hval 0 22 v0 rfl rfl) h0
  obtain ⟨a1, rfl, rfl, rfl, w1⟩ := open_int Try.underlying3 (hval 1 3 v1 rfl rfl) h1
  simp only [List.append_nil] at hW'
  refine (walk W A0 c0 l0 hr0 hf0 a1 (Kop.fits_of w1)).mono fun e W' ⟨he, hg⟩ => ?_
  subst he
  exact ⟨_, rfl, _, _, _, [], _, [], hW', (trodAll_cons_mk (shut_bool Try.underlying4 _) trodAll_mk0), (trodAll_cons_mk (Below.trod Kop.laidOut (by kernel_rfl) (of_decide_eq_true (by kernel_rfl)) hk0 hg hlt0) (trodAll_cons_mk (shut_int Try.underlying3 w1) trodAll_mk0)), rfl, hg.frame _, fun h => by cases h⟩

theorem over : Rows.shieldSumsRow.holds Try.pinned (OpenSpec.ofChange Rows.shieldSumsSpec) :=
  OpenClaim.holds_of_wide 5 Try.f5 rfl rfl rfl rfl rfl rfl rfl ⟨rfl, rfl, rfl, rfl, rfl⟩ rfl rfl rfl rfl rfl (by kernel_rfl) Try.func5 (by kernel_rfl)
    (of_decide_eq_true (by kernel_rfl)) (by unfold Func.isWrapper; first | (rw [if_pos (by decide +kernel)]; kernel_rfl) | (rw [if_neg (by decide +kernel)]; exact ⟨rfl, rfl⟩))
    (fun os started H enc _ => lifted os started H enc)

/-- The given statement. -/
theorem proved : Rows.ShieldSumsSaid :=
  over
#print axioms proved
end Go.Proofs.Ytafglhgpkmnnlaa.shieldSums
