/-
  For every two numbers the law PackApart answers true: no written number begins another one, and a greater one has no fewer bytes; no condition beyond the types'.
-/
import Derived.Test.YtgandkgcnackkaaCom
import Derived.Test.YtgandkgcnackkaaOpen
import Derived.WalkKit
import Derived.ProofKit
import Derived.OpenShut
namespace Go.Proofs.Ytgandkgcnackkaa.packApart
open Go.ChangeShapes Go.WideShapes Go.ChangeAt Go.RowKit
set_option linter.unusedVariables false

theorem own : ownKnob Try.prog.godebug = none := by kernel_rfl

open Con Mth Mem

set_option maxRecDepth 100000 in
set_option maxHeartbeats 1000000 in
theorem apart_neg (w : World) (n m : Int) (hn : -9223372036854775808 ≤ n ∧ n ≤ 9223372036854775807) (hm : -9223372036854775808 ≤ m ∧ m ≤ 9223372036854775807) (h : n < 0 ∨ m < 0) :
    Calls Try.prog 6 #[.int .i64 n, .int .i64 m] w fun e w' => e = .returned (.bool true) ∧ Below w.heap.size w w' := by
  obtain ⟨hn0, hn1⟩ := hn
  obtain ⟨hm0, hm1⟩ := hm
  by_cases hneg : n < 0
  all_goals (first | (have hneg' : decide (n < 0) = false := (by simpa using hneg); have hmneg : m < 0 := (by omega)) | skip)
  all_goals
    clear h
    go_enter Try.func6, Try.ntmps6
    go_wp2_with (first
      | ((with_reducible refine (small_any _).mono ?_); rintro e w1 ⟨rfl, hb1⟩; have HB1 := Lib.hid hb1; clear hb1; have tok : True := trivial)
      | (have _t := tok; (with_reducible refine (uint_nil n _ hn0 hn1).mono ?_); rintro e w2 ⟨l2, A2, c2, HL2, rfl, HO2, HB2⟩; clear tok; have hl2 : (1 : Int) ≤ l2.length := (by rw [HL2.out]; have := dg_pos n.toNat; omega))
      | ((with_reducible refine (uint_nil m _ hm0 hm1).mono ?_); rintro e w3 ⟨l3, A3, c3, HL3, rfl, HO3, HB3⟩; have hl3 : (1 : Int) ≤ l3.length := (by rw [HL3.out]; have := dg_pos m.toNat; omega)))
    go_ret
    exact ⟨rfl, neg_last HB1.out HB2.out HB3.out⟩

theorem eq_apart {l m : List Int} {a b : Nat} (hl : l = dg a) (hm : m = dg b) (ha : (a : Int) < 18446744073709551616) (hb : (b : Int) < 18446744073709551616) (hne : a ≠ b) : ((strOfNums l).toList == (strOfNums (m.take l.length)).toList) = false := by
  subst hl; subst hm
  rw [beq_eq_false_iff_ne]
  intro h
  have e := txt_inj (dg_byt a) ((dg_byt b).take _) h
  refine hne (dg_apart (r := (dg b).drop (dg a).length) (by omega) (by omega) ?_)
  have := List.take_append_drop (dg a).length (dg b)
  rw [← e] at this
  exact this.symm
theorem last_cell {w : World} {base c g : Nat} {l : List Int} {a : Nat} (h : Own w base .u8 5 (some ⟨g, 0, none⟩) c l) (hl : l = dg a) : ∃ y, w.cell? ⟨g, l.length - 1, none⟩ = some (.int .u8 y) ∧ 0 ≤ y ∧ y < 128 := by
  obtain ⟨y, h1, h2, h3⟩ := dg_last a
  rw [← hl] at h1
  refine ⟨y, ?_, h2, h3⟩
  have := h.cells (g := g) rfl _ _ (vs_at h1)
  rw [add_none, Nat.zero_add] at this
  exact this
set_option maxRecDepth 100000 in
set_option maxHeartbeats 1000000 in
theorem apart_pos (w : World) (n m : Int) (hn0 : 0 ≤ n) (hn1 : n ≤ 9223372036854775807) (hm0 : 0 ≤ m) (hm1 : m ≤ 9223372036854775807) :
    Calls Try.prog 6 #[.int .i64 n, .int .i64 m] w fun e w' => e = .returned (.bool true) ∧ Below w.heap.size w w' := by
  have hn2 : decide (n < 0) = false := by simp; omega
  have hm2 : decide (m < 0) = false := by simp; omega
  go_enter Try.func6, Try.ntmps6
  go_wp2_with (first
    | ((with_reducible refine (small_any _).mono ?_); rintro e w1 ⟨rfl, hb1⟩; have HB1 := Lib.hid hb1; clear hb1; have tok : True := trivial)
    | (have _t := tok; (with_reducible refine (uint_nil n _ (by omega) hn1).mono ?_); rintro e w2 ⟨l2, A2, c2, HL2, rfl, HO2, HB2⟩; clear tok; have hl2 : (1 : Int) ≤ l2.length := (by rw [HL2.out]; have := dg_pos n.toNat; omega); have hl2' : decide ((l2.length : Int) < 1) = false := (by simp; omega))
    | ((with_reducible refine (uint_nil m _ (by omega) hm1).mono ?_); rintro e w3 ⟨l3, A3, c3, HL3, rfl, HO3, HB3⟩; have hl3 : (1 : Int) ≤ l3.length := (by rw [HL3.out]; have := dg_pos m.toNat; omega); have hl3' : decide ((l3.length : Int) < 1) = false := (by simp; omega)))
  have HO2' := Lib.hid (HO2.out.below HB3.out (Nat.le_refl _))
  obtain ⟨g2, rfl, _, hg2, hcap2⟩ := own_form HO2'.out (by omega)
  obtain ⟨g3, rfl, _, hg3, hcap3⟩ := own_form HO3.out (by omega)
  have hl9 : (l2.length : Int) ≤ 9 := by rw [HL2.out]; have := dg_len9 (n := n.toNat) (by omega); omega
  have hc2 := fun k => conv c2 ((Rd.of_own HO2'.out).drewN k)
  by_cases hle : l2.length ≤ l3.length
  · have hc3 := fun k => conv c3 (((Rd.of_own HO3.out).take l2.length).drewN k)
    rw [List.length_take, Nat.min_eq_left hle] at hc3
    go_quiet (fail)
    clear hc2 hc3
    by_cases hnm : n = m
    · have hnm' : (n == m) = true := by simpa using hnm
      have hgt' : decide (m < n) = false := by simp; omega
      have HNM := Lib.hid hnm; clear hnm
      have he : ((strOfNums l2).toList == (strOfNums (l3.take l2.length)).toList) = true := eq_same (by
        have : l2 = l3 := by rw [HL2.out, HL3.out, HNM.out]
        rw [← this]; simp)
      obtain ⟨y, hy, hy0, hy1⟩ := last_cell HO2'.out HL2.out
      go_wp2
      go_ret
      exact ⟨rfl, below_drewN (neg_last HB1.out HB2.out HB3.out) _⟩
    · have hnm' : (n == m) = false := by simpa using hnm
      have he : ((strOfNums l2).toList == (strOfNums (l3.take l2.length)).toList) = false := eq_apart HL2.out HL3.out (by omega) (by omega) (by omega)
      obtain ⟨y, hy, hy0, hy1⟩ := last_cell HO2'.out HL2.out
      by_cases hgt : m < n
      · go_wp2
        go_ret
        exact ⟨rfl, below_drewN (neg_last HB1.out HB2.out HB3.out) _⟩
      · have hgt' : decide (m < n) = false := by simpa using hgt
        go_wp2
        go_ret
        exact ⟨rfl, below_drewN (neg_last HB1.out HB2.out HB3.out) _⟩
  · have hle' : decide (l2.length ≤ l3.length) = false := by simpa using hle
    have hgt : m < n := by
      rcases Int.lt_or_le m n with h | h
      · exact h
      · have := dg_mono (n := n.toNat) (m := m.toNat) (by omega)
        rw [← HL2.out, ← HL3.out] at this
        omega
    have hnm' : (n == m) = false := by simp; omega
    obtain ⟨y, hy, hy0, hy1⟩ := last_cell HO2'.out HL2.out
    go_quiet (fail)
    clear hc2
    go_wp2
    go_ret
    exact ⟨rfl, below_drewN (neg_last HB1.out HB2.out HB3.out) _⟩

theorem walk (w : World) (n : Int) (hn : -9223372036854775808 ≤ n ∧ n ≤ 9223372036854775807) (m : Int) (hm : -9223372036854775808 ≤ m ∧ m ≤ 9223372036854775807) :
    Calls Try.prog 6 #[.int .i64 n, .int .i64 m] w fun e w' => e = .returned (.bool true) ∧ Below w.heap.size w w' := by
  by_cases h : n < 0 ∨ m < 0
  · exact apart_neg w n m hn hm h
  · exact apart_pos w n m (by omega) hn.2 (by omega) hm.2


set_option maxRecDepth 100000 in
theorem lifted (os : Os) (started : os.Started) (H : Type) (enc : TypeId × Value → H) :
    ReturnsInHanded {} Try.checked os 6 .any (Rows.packApartSpec.pre6 enc Try.prog Try.f6 Rows.packApartRow.domain false) (Rows.packApartSpec.post enc Try.prog Try.f6 false true false false) := by
  refine returnsInHanded_of_change (C := Try.checked) own started (by kernel_rfl) Try.func6
    (ChangeSpec.witness6 (enc := enc) (C := Try.checked) false ⟨#[], #[.int .i64 0, .int .i64 0], []⟩ 8 (by kernel_rfl) (by kernel_rfl) (by kernel_rfl) (by kernel_rfl)) ?_
  intro W base args ds gs before hval0 hW hcnd _
  have hval : ∀ (j : Nat) t v, Try.f6.params[j]? = some t → args[j]? = some v → Value.okWide Try.prog W .any base t v := hval0
  have hW' := hW
  obtain ⟨p, q, hA0, hV, rfl, hfz, hnd⟩ := hW
  have hA : DataW.TrodAll enc Try.prog W 0 (fun _ => true) true Try.f6.params.toList args.toList ds p := hA0
  rw [Try.params6] at hA hval
  obtain ⟨v0, vs0, d0, ds0, p0, q0, hargs, rfl, rfl, h0, r0⟩ := trodAll_cons hA
  obtain ⟨v1, vs1, d1, ds1, p1, q1, rfl, rfl, rfl, h1, r1⟩ := trodAll_cons r0
  obtain ⟨rfl, rfl, rfl⟩ := trodAll_nil r1
  obtain rfl : args = #[v0, v1] := by cases args; simp_all
  obtain ⟨rfl, rfl⟩ := trodVars_none hV
  clear hA0 hval0
  obtain ⟨a0, rfl, rfl, rfl, w0⟩ := open_int Try.underlying3 (hval 0 3 v0 rfl rfl) h0
  obtain ⟨a1, rfl, rfl, rfl, w1⟩ := open_int Try.underlying3 (hval 1 3 v1 rfl rfl) h1
  simp only [List.append_nil] at hW'
  refine (walk W a0 (Open.fits_of w0) a1 (Open.fits_of w1)).mono fun e W' ⟨he, hg⟩ => ?_
  subst he
  exact ⟨_, rfl, _, _, _, [], _, [], hW', (trodAll_cons_mk (shut_bool Try.underlying4 _) trodAll_mk0), (trodAll_cons_mk (shut_int Try.underlying3 w0) (trodAll_cons_mk (shut_int Try.underlying3 w1) trodAll_mk0)), rfl, hg.frame _, fun h => by cases h⟩

theorem over : Rows.packApartRow.holds Try.pinned (OpenSpec.ofChange Rows.packApartSpec) :=
  OpenClaim.holds_of_wide 6 Try.f6 rfl rfl rfl rfl rfl rfl rfl ⟨rfl, rfl, rfl, rfl, rfl⟩ rfl rfl rfl rfl rfl (by kernel_rfl) Try.func6 (by kernel_rfl)
    (of_decide_eq_true (by kernel_rfl)) (by unfold Func.isWrapper; first | (rw [if_pos (by decide +kernel)]; kernel_rfl) | (rw [if_neg (by decide +kernel)]; exact ⟨rfl, rfl⟩))
    (fun os started H enc _ => lifted os started H enc)

/-- The given statement. -/
theorem proved : Rows.PackApartSaid :=
  over
#print axioms proved
end Go.Proofs.Ytgandkgcnackkaa.packApart
