/-
  The law ShieldParts answers true for every number and every row of parts: the program's More and All are the document's own.
-/
import Derived.Test.YtafglhgpkmnnlaaSma
import Derived.Test.YtafglhgpkmnnlaaKop
import Derived.WalkKit
import Derived.ProofKit
import Derived.OpenShut
namespace Go.Proofs.Ytafglhgpkmnnlaa.shieldParts
open Go.ChangeShapes Go.WideShapes Go.ChangeAt Go.RowKit Con
set_option linter.unusedVariables false

theorem own : ownKnob Try.prog.godebug = none := by kernel_rfl

set_option maxRecDepth 20000 in
set_option maxHeartbeats 4000000 in
theorem walk (w : World) (n : Int) (hn : Fits n) (A : Option Addr) (c : Nat) (l : List Int) (hr : RW nu w w.heap.size A l) (hf : ∀ x ∈ l, Fits x) :
    Calls Try.prog 4 #[.int .i64 n, .slice A l.length c] w fun e w' => e = .returned (.bool true) ∧ Below w.heap.size w w' := by
  have HR := Lib.hid hr; have HF := Lib.hid hf
  clear hr hf
  by_cases hbig : 200 < (l.length : Int)
  · go_enter Try.func4, Try.ntmps4
    go_wp2_with ((with_reducible refine (small_any _).mono ?_); rintro e w1 ⟨rfl, hB1⟩)
    go_ret
    exact ⟨rfl, hB1⟩
  · have hbig' : decide (200 < (l.length : Int)) = false := by simpa using hbig
    have HL : Hid ((l.length : Int) ≤ 1000000) := Lib.hid (by omega)
    obtain ⟨m, hm⟩ : ∃ m, allI n l = m := ⟨_, rfl⟩
    have HA : Hid (∀ V, Below w.heap.size w V → Calls Try.prog 13 #[.int .i64 n, .slice A l.length c] V fun e w' => e = .returned (.int .i64 m) ∧ V = w') := Lib.hid (fun V hV => by
      have := all_any n A c l _ V (HR.out.below hV (Nat.le_refl _)) HF.out HL.out
      rwa [hm] at this)
    have HRA : Hid (∀ V, Below w.heap.size w V → Calls Try.prog 14 #[.int .i64 n, .slice A l.length c] V fun e w' => e = .returned (.int .i64 m) ∧ V = w') := Lib.hid (fun V hV => by
      have := rall_any n A c l _ V (HR.out.below hV (Nat.le_refl _)) HF.out HL.out
      rwa [hm] at this)
    clear hm
    by_cases h0 : 0 < (l.length : Int)
    · obtain ⟨x, hx⟩ : ∃ x, l[0]? = some x := ⟨_, List.getElem?_eq_getElem (by omega)⟩
      obtain ⟨b, off, rfl, hb, hc⟩ := HR.out.at' hx
      have c0 : w.cell? ⟨b, off + 0 * 1, none⟩ = some (.int .i64 x) := cellsNu (o := off + 0 * 1) hc
      have HC0 : Hid (∀ V, Below w.heap.size w V → V.cell? ⟨b, off, none⟩ = some (.int .i64 x)) := Lib.hid (fun V hV => (World.cell?_of_block (w := w) (hV.block b hb)).trans (by simpa using c0))
      have HFX := Lib.hid (HF.out x (List.mem_of_getElem? hx))
      clear hx hc c0 hb
      obtain ⟨y, hy⟩ : ∃ y, moreI n x = y := ⟨_, rfl⟩
      have HM : Hid (∀ V, Calls Try.prog 15 #[.int .i64 n, .int .i64 x] V fun e w' => e = .returned (.int .i64 y) ∧ V = w') := Lib.hid (fun V => by have := more_any n x HFX.out V; rwa [hy] at this)
      have HRM : Hid (∀ V, Calls Try.prog 16 #[.int .i64 n, .int .i64 x] V fun e w' => e = .returned (.int .i64 y) ∧ V = w') := Lib.hid (fun V => by have := rmore_any n x HFX.out V; rwa [hy] at this)
      clear hy
      go_enter Try.func4, Try.ntmps4
      go_wp2_with (first
        | ((with_reducible refine (small_any _).mono ?_); rintro e w1 ⟨rfl, hB1⟩; have HB1 := Lib.hid hB1; clear hB1; have c0 := HC0.out _ HB1.out)
        | ((with_reducible refine (HA.out _ HB1.out).mono ?_); rintro e w2 ⟨rfl, rfl⟩)
        | ((with_reducible refine (HRA.out _ HB1.out).mono ?_); rintro e w3 ⟨rfl, rfl⟩)
        | ((with_reducible refine (HM.out _).mono ?_); rintro e w4 ⟨rfl, rfl⟩)
        | ((with_reducible refine (HRM.out _).mono ?_); rintro e w5 ⟨rfl, rfl⟩))
      go_ret
      exact ⟨rfl, HB1.out⟩
    · have h0' : decide (0 < (l.length : Int)) = false := by simpa using h0
      obtain ⟨y, hy⟩ : ∃ y, moreI n 0 = y := ⟨_, rfl⟩
      have HM : Hid (∀ V, Calls Try.prog 15 #[.int .i64 n, .int .i64 0] V fun e w' => e = .returned (.int .i64 y) ∧ V = w') := Lib.hid (fun V => by have := more_any n 0 ⟨by omega, by omega⟩ V; rwa [hy] at this)
      have HRM : Hid (∀ V, Calls Try.prog 16 #[.int .i64 n, .int .i64 0] V fun e w' => e = .returned (.int .i64 y) ∧ V = w') := Lib.hid (fun V => by have := rmore_any n 0 ⟨by omega, by omega⟩ V; rwa [hy] at this)
      clear hy
      go_enter Try.func4, Try.ntmps4
      go_wp2_with (first
        | ((with_reducible refine (small_any _).mono ?_); rintro e w1 ⟨rfl, hB1⟩; have HB1 := Lib.hid hB1; clear hB1)
        | ((with_reducible refine (HA.out _ HB1.out).mono ?_); rintro e w2 ⟨rfl, rfl⟩)
        | ((with_reducible refine (HRA.out _ HB1.out).mono ?_); rintro e w3 ⟨rfl, rfl⟩)
        | ((with_reducible refine (HM.out _).mono ?_); rintro e w4 ⟨rfl, rfl⟩)
        | ((with_reducible refine (HRM.out _).mono ?_); rintro e w5 ⟨rfl, rfl⟩))
      go_ret
      exact ⟨rfl, HB1.out⟩


set_option maxRecDepth 100000 in
theorem lifted (os : Os) (started : os.Started) (H : Type) (enc : TypeId × Value → H) :
    ReturnsInHanded {} Try.checked os 4 .any (Rows.shieldPartsSpec.pre6 enc Try.prog Try.f4 Rows.shieldPartsRow.domain false) (Rows.shieldPartsSpec.post enc Try.prog Try.f4 false true false false) := by
  refine returnsInHanded_of_change (C := Try.checked) own started (by kernel_rfl) Try.func4
    (ChangeSpec.witness6 (enc := enc) (C := Try.checked) false ⟨#[], #[.int .i64 0, .slice none 0 0], []⟩ 8 (by kernel_rfl) (by kernel_rfl) (by kernel_rfl) (by kernel_rfl)) ?_
  intro W base args ds gs before hval0 hW hcnd _
  have hval : ∀ (j : Nat) t v, Try.f4.params[j]? = some t → args[j]? = some v → Value.okWide Try.prog W .any base t v := hval0
  have hW' := hW
  obtain ⟨p, q, hA0, hV, rfl, hfz, hnd⟩ := hW
  have hA : DataW.TrodAll enc Try.prog W 0 (fun _ => true) true Try.f4.params.toList args.toList ds p := hA0
  rw [Try.params4] at hA hval
  obtain ⟨v0, vs0, d0, ds0, p0, q0, hargs, rfl, rfl, h0, r0⟩ := trodAll_cons hA
  obtain ⟨v1, vs1, d1, ds1, p1, q1, rfl, rfl, rfl, h1, r1⟩ := trodAll_cons r0
  obtain ⟨rfl, rfl, rfl⟩ := trodAll_nil r1
  obtain rfl : args = #[v0, v1] := by cases args; simp_all
  obtain ⟨rfl, rfl⟩ := trodVars_none hV
  clear hA0 hval0
  obtain ⟨a0, rfl, rfl, rfl, w0⟩ := open_int Try.underlying3 (hval 0 3 v0 rfl rfl) h0
  have hlt1 : ∀ x ∈ p1, x.block < W.heap.size := fun x hx => hW'.lt x (by simp [hx])
  have hk1 := h1
  obtain ⟨A1, c1, l1, rfl, hr1, hf1⟩ := Kop.viewNu (hval 1 24 v1 rfl rfl) h1
  simp only [List.append_nil] at hW'
  refine (walk W a0 (Kop.fits_of w0) A1 c1 l1 hr1 hf1).mono fun e W' ⟨he, hg⟩ => ?_
  subst he
  exact ⟨_, rfl, _, _, _, [], _, [], hW', (trodAll_cons_mk (shut_bool Try.underlying4 _) trodAll_mk0), (trodAll_cons_mk (shut_int Try.underlying3 w0) (trodAll_cons_mk (Below.trod Kop.laidOut (by kernel_rfl) (of_decide_eq_true (by kernel_rfl)) hk1 hg hlt1) trodAll_mk0)), rfl, hg.frame _, fun h => by cases h⟩

theorem over : Rows.shieldPartsRow.holds Try.pinned (OpenSpec.ofChange Rows.shieldPartsSpec) :=
  OpenClaim.holds_of_wide 4 Try.f4 rfl rfl rfl rfl rfl rfl rfl ⟨rfl, rfl, rfl, rfl, rfl⟩ rfl rfl rfl rfl rfl (by kernel_rfl) Try.func4 (by kernel_rfl)
    (of_decide_eq_true (by kernel_rfl)) (by unfold Func.isWrapper; first | (rw [if_pos (by decide +kernel)]; kernel_rfl) | (rw [if_neg (by decide +kernel)]; exact ⟨rfl, rfl⟩))
    (fun os started H enc _ => lifted os started H enc)

/-- The given statement. -/
theorem proved : Rows.ShieldPartsSaid :=
  over
#print axioms proved
end Go.Proofs.Ytafglhgpkmnnlaa.shieldParts
