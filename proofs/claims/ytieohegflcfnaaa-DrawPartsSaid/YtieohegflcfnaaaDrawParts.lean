/-
  DrawParts: for every slice of numbers and every two numbers the law DrawParts answers true, and what was handed in reads as before; no condition.
-/
import Derived.Test.YtieohegflcfnaaaTwo
import Derived.Test.YtieohegflcfnaaaOpen
import Derived.WalkKit
import Derived.ProofKit
import Derived.OpenShut
namespace Go.Proofs.Ytieohegflcfnaaa.drawParts
open Go.ChangeShapes Go.WideShapes Go.ChangeAt Go.RowKit
set_option linter.unusedVariables false

theorem own : ownKnob Try.prog.godebug = none := by kernel_rfl

open Con Mth Mem

theorem len_take {l : List Int} {k : Nat} (h : k ≤ l.length) : (l.take k).length = k := by simp; omega
theorem bad_parts (l : List Int) (k : Nat) : bad l = (bad (l.take k) || bad (l.drop k)) := by rw [← bad_append, List.take_append_drop]

theorem rd_none {w : World} {B : Nat} {A : Option Addr} {m : List Int} (h : m = []) : Rd w B A m := .inl h

/-- What holds at the head of each round: both streams hold the same words. -/
def At (w wr : World) (gx gy : Nat) (l : List Int) : Prop := ∃ m : List Int, m.length ≤ l.length ∧ Pair w.heap.size w wr 50 gx m 50 gy m

set_option maxHeartbeats 4000000 in
set_option maxRecDepth 100000 in
theorem inner (w : World) (A : Option Addr) (c : Nat) (l : List Int) (hr0 : Rd w w.heap.size A l) (hlc : l.length ≤ c) (n : Int) (cut : Int) (hcut : -9223372036854775808 ≤ cut ∧ cut ≤ 9223372036854775807) (hbig : l.length ≤ 300) :
    Calls Try.prog 5 #[.slice A l.length c, .int .i64 n, .int .i64 cut] w fun e w' => e = .returned (.bool true) ∧ Below w.heap.size w w' := by
  have hbig' : (l.length : Int) ≤ 300 := by omega
  have HR := Lib.hid hr0; clear hr0
  obtain ⟨k, hk⟩ : ∃ k : Nat, min (max cut 0) (l.length : Int) = k := ⟨(min (max cut 0) (l.length : Int)).toNat, by omega⟩
  have hkl : k ≤ l.length := by omega
  have HTL := Lib.hid (len_take hkl)
  have HDL := Lib.hid (List.length_drop (i := k) (l := l))
  have HBP := Lib.hid (bad_parts l k)
  have HD0 : Hid (c = k → l.drop k = []) := fun e => List.drop_eq_nil_of_le (by omega)
  cases h1 : bad (l.take k) with
  | true =>
    have HB1 := Lib.hid h1; have HB := Lib.hid (show bad l = true by rw [HBP.out, h1]; rfl); clear h1
    cases h2 : bad (l.drop k) with
    | true =>
      have HB2 := Lib.hid h2; clear h2
      go_enter Try.func5, Try.ntmps5
      go_wp2_with (first
        | ((with_reducible refine (small_any _).mono ?_); rintro e w1 ⟨rfl, hb⟩; have HP0 := Lib.hid (pair_new w.heap.size 50 50 hb hb.size); clear hb)
        | ((with_reducible refine (new_any _).mono ?_); rintro e w' ⟨rfl, rfl⟩)
        | ((with_reducible refine (x_feed_bad (by decide) HP0.out l w.heap.size A _ c rfl (HR.out.below HP0.out.below) (by simp) (by omega) HB.out).mono ?_); rintro e w2 ⟨rfl, hp⟩; have HP1 := Lib.hid hp.symm; clear hp)
        | ((with_reducible refine (x_feed_bad (by decide) HP1.out (l.take k) w.heap.size A k c HTL.out ((HR.out.take k).below HP1.out.below) (by simp) (by have := HTL.out; omega) HB1.out).mono ?_); rintro e w3 ⟨rfl, hp⟩; have HP2 := Lib.hid hp; clear hp)
        | ((with_reducible refine (x_feed_bad (by decide) HP2.out (l.drop k) w.heap.size (Option.map (fun x => x.add k) A) (l.length - k) _ HDL.out ((rd_map HR.out k).below HP2.out.below) (by simp) (by have := HDL.out; omega) HB2.out).mono ?_); rintro e w4 ⟨rfl, hp⟩; have HP3 := Lib.hid hp; clear hp)
        | ((with_reducible refine (x_feed_bad (by decide) HP2.out (l.drop k) w.heap.size A (l.length - k) 0 HDL.out (rd_none (HD0.out (by omega))) (by simp) (by have := HDL.out; omega) HB2.out).mono ?_); rintro e w4 ⟨rfl, hp⟩; have HP3 := Lib.hid hp; clear hp))
      all_goals
        go_ret
        exact ⟨rfl, HP3.out.below⟩
    | false =>
      have HB2 := Lib.hid h2; clear h2
      go_enter Try.func5, Try.ntmps5
      go_wp2_with (first
        | ((with_reducible refine (small_any _).mono ?_); rintro e w1 ⟨rfl, hb⟩; have HP0 := Lib.hid (pair_new w.heap.size 50 50 hb hb.size); clear hb)
        | ((with_reducible refine (new_any _).mono ?_); rintro e w' ⟨rfl, rfl⟩)
        | ((with_reducible refine (x_feed_bad (by decide) HP0.out l w.heap.size A _ c rfl (HR.out.below HP0.out.below) (by simp) (by omega) HB.out).mono ?_); rintro e w2 ⟨rfl, hp⟩; have HP1 := Lib.hid hp.symm; clear hp)
        | ((with_reducible refine (x_feed_bad (by decide) HP1.out (l.take k) w.heap.size A k c HTL.out ((HR.out.take k).below HP1.out.below) (by simp) (by have := HTL.out; omega) HB1.out).mono ?_); rintro e w3 ⟨rfl, hp⟩; have HP2 := Lib.hid hp; clear hp)
        | ((with_reducible refine (x_feed_ok (by decide) HP2.out (l.drop k) w.heap.size (Option.map (fun x => x.add k) A) (l.length - k) _ HDL.out ((rd_map HR.out k).below HP2.out.below) (by have := HDL.out; simp; omega) HB2.out _ rfl).mono ?_); rintro e w4 ⟨rfl, hp⟩; have HP3 := Lib.hid hp; clear hp)
        | ((with_reducible refine (x_feed_ok (by decide) HP2.out (l.drop k) w.heap.size A (l.length - k) 0 HDL.out (rd_none (HD0.out (by omega))) (by have := HDL.out; simp; omega) HB2.out _ rfl).mono ?_); rintro e w4 ⟨rfl, hp⟩; have HP3 := Lib.hid hp; clear hp))
      all_goals
        go_ret
        exact ⟨rfl, HP3.out.below⟩
  | false =>
    have HB1 := Lib.hid h1
    have e0 : bad l = bad (l.drop k) := by rw [HBP.out, h1]; rfl
    clear h1
    cases h2 : bad (l.drop k) with
    | true =>
      have HB2 := Lib.hid h2; have HB := Lib.hid (e0.trans h2); clear h2 e0
      go_enter Try.func5, Try.ntmps5
      go_wp2_with (first
        | ((with_reducible refine (small_any _).mono ?_); rintro e w1 ⟨rfl, hb⟩; have HP0 := Lib.hid (pair_new w.heap.size 50 50 hb hb.size); clear hb)
        | ((with_reducible refine (new_any _).mono ?_); rintro e w' ⟨rfl, rfl⟩)
        | ((with_reducible refine (x_feed_bad (by decide) HP0.out l w.heap.size A _ c rfl (HR.out.below HP0.out.below) (by simp) (by omega) HB.out).mono ?_); rintro e w2 ⟨rfl, hp⟩; have HP1 := Lib.hid hp.symm; clear hp)
        | ((with_reducible refine (x_feed_ok (by decide) HP1.out (l.take k) w.heap.size A k c HTL.out ((HR.out.take k).below HP1.out.below) (by have := HTL.out; simp; omega) HB1.out _ rfl).mono ?_); rintro e w3 ⟨rfl, hp⟩; have HP2 := Lib.hid hp; clear hp)
        | ((with_reducible refine (x_feed_bad (by decide) HP2.out (l.drop k) w.heap.size (Option.map (fun x => x.add k) A) (l.length - k) _ HDL.out ((rd_map HR.out k).below HP2.out.below) (by have := HTL.out; simp; omega) (by have := HDL.out; omega) HB2.out).mono ?_); rintro e w4 ⟨rfl, hp⟩; have HP3 := Lib.hid hp; clear hp)
        | ((with_reducible refine (x_feed_bad (by decide) HP2.out (l.drop k) w.heap.size A (l.length - k) 0 HDL.out (rd_none (HD0.out (by omega))) (by have := HTL.out; simp; omega) (by have := HDL.out; omega) HB2.out).mono ?_); rintro e w4 ⟨rfl, hp⟩; have HP3 := Lib.hid hp; clear hp))
      all_goals
        go_ret
        exact ⟨rfl, HP3.out.below⟩
    | false =>
      have HB2 := Lib.hid h2; have HB := Lib.hid (e0.trans h2); clear h2 e0
      go_enter Try.func5, Try.ntmps5
      go_wp2_with (first
        | ((with_reducible refine (small_any _).mono ?_); rintro e w1 ⟨rfl, hb⟩; have HP0 := Lib.hid (pair_new w.heap.size 50 50 hb hb.size); clear hb)
        | ((with_reducible refine (new_any _).mono ?_); rintro e w' ⟨rfl, rfl⟩)
        | ((with_reducible refine (x_feed_ok (by decide) HP0.out l w.heap.size A _ c rfl (HR.out.below HP0.out.below) (by simp; omega) HB.out l (by simp)).mono ?_); rintro e w2 ⟨rfl, hp⟩; have HP1 := Lib.hid hp.symm; clear hp)
        | ((with_reducible refine (x_feed_ok (by decide) HP1.out (l.take k) w.heap.size A k c HTL.out ((HR.out.take k).below HP1.out.below) (by have := HTL.out; simp; omega) HB1.out (l.take k) (by simp)).mono ?_); rintro e w3 ⟨rfl, hp⟩; have HP2 := Lib.hid hp; clear hp)
        | ((with_reducible refine (x_feed_ok (by decide) HP2.out (l.drop k) w.heap.size (Option.map (fun x => x.add k) A) (l.length - k) _ HDL.out ((rd_map HR.out k).below HP2.out.below) (by have := HDL.out; have := HTL.out; simp; omega) HB2.out l (by simp)).mono ?_); rintro e w4 ⟨rfl, hp⟩; have HP3 := Lib.hid hp.symm; clear hp)
        | ((with_reducible refine (x_feed_ok (by decide) HP2.out (l.drop k) w.heap.size A (l.length - k) 0 HDL.out (rd_none (HD0.out (by omega))) (by have := HDL.out; have := HTL.out; simp; omega) HB2.out l (by simp)).mono ?_); rintro e w4 ⟨rfl, hp⟩; have HP3 := Lib.hid hp.symm; clear hp))
      all_goals
        go_loopg [14] (l.length + 1) (fun g s14 wr => ∃ i : Nat, i ≤ l.length + 1 ∧ g = l.length + 1 - i ∧ s14 = .int .i64 i ∧ At w wr w1.heap.size (w1.heap.size + 1) l)
        case atStart => exact ⟨0, by omega, rfl, rfl, l, Nat.le_refl _, HP3.out⟩
        case round =>
          obtain ⟨i, hi, rfl, rfl, m, hml, hp⟩ := hrel
          have HP := Lib.hid hp; clear hp HP0 HP1 HP2 HP3
          by_cases hlt : i ≤ l.length
          · rcases hf : fair m n with _ | ⟨d, u⟩
            · have HF := Lib.hid hf; clear hf
              go_wp2_with (first
                | ((with_reducible refine (x_left HP.out).mono ?_); rintro e w' ⟨rfl, rfl⟩)
                | ((with_reducible refine (x_none (by decide) HP.out n (by omega) HF.out).mono ?_); rintro e w5 ⟨rfl, hp⟩; have HPa := Lib.hid hp.symm; clear hp)
                | ((with_reducible refine (x_none (by decide) HPa.out n (by omega) HF.out).mono ?_); rintro e w6 ⟨rfl, hp⟩; have HPc := Lib.hid hp; have HPb := Lib.hid hp.symm; clear hp)
                | ((with_reducible refine (x_left HPb.out).mono ?_); rintro e w' ⟨rfl, rfl⟩)
                | ((with_reducible refine (x_left HPc.out).mono ?_); rintro e w' ⟨rfl, rfl⟩))
              go_roundg (l.length + 1 - (i + 1))
              case measure => omega
              case rel => exact ⟨i + 1, by omega, rfl, by go_num, m, hml, HPb.out⟩
            · have hfs := fair_some hf
              have HF := Lib.hid hf; clear hf
              obtain ⟨m', hm'⟩ : ∃ m', m.drop u = m' := ⟨_, rfl⟩
              have hlen : m'.length < m.length := by rw [← hm', List.length_drop]; omega
              have hd1 : decide (d < 0) = false := by simp; omega
              have hd2 : decide (n ≤ d) = false := by simp; omega
              have hd3 : decide (m.length ≤ m'.length) = false := by simp; omega
              have HM := Lib.hid hm'; clear hm' hfs
              go_wp2_with (first
                | ((with_reducible refine (x_left HP.out).mono ?_); rintro e w' ⟨rfl, rfl⟩)
                | ((with_reducible refine (x_some (by decide) HP.out n d u (by omega) HF.out m' HM.out).mono ?_); rintro e w5 ⟨rfl, hp⟩; have HPa := Lib.hid hp.symm; clear hp)
                | ((with_reducible refine (x_some (by decide) HPa.out n d u (by omega) HF.out m' HM.out).mono ?_); rintro e w6 ⟨rfl, hp⟩; have HPc := Lib.hid hp; have HPb := Lib.hid hp.symm; clear hp)
                | ((with_reducible refine (x_left HPb.out).mono ?_); rintro e w' ⟨rfl, rfl⟩)
                | ((with_reducible refine (x_left HPc.out).mono ?_); rintro e w' ⟨rfl, rfl⟩))
              go_roundg (l.length + 1 - (i + 1))
              case measure => omega
              case rel => exact ⟨i + 1, by omega, rfl, by go_num, m', by omega, HPb.out⟩
          · go_wp2
            go_ret
            exact ⟨rfl, HP.out.below⟩

set_option maxRecDepth 100000 in
theorem walk (w : World) (A : Option Addr) (c : Nat) (l : List Int) (hr0 : Rd w w.heap.size A l) (hlc : l.length ≤ c) (hl : l.length ≤ 9223372036854775807) (hx : ∀ x ∈ l, -9223372036854775808 ≤ x ∧ x ≤ 9223372036854775807) (n : Int) (hn : -9223372036854775808 ≤ n ∧ n ≤ 9223372036854775807) (cut : Int) (hcut : -9223372036854775808 ≤ cut ∧ cut ≤ 9223372036854775807) :
    Calls Try.prog 5 #[.slice A l.length c, .int .i64 n, .int .i64 cut] w fun e w' => e = .returned (.bool true) ∧ Below w.heap.size w w' := by
  by_cases hbig : 300 < l.length
  · have hbig' : (300 : Int) < l.length := by omega
    clear hx hr0
    go_enter Try.func5, Try.ntmps5
    go_wp2_with (first
      | ((with_reducible refine (small_any _).mono ?_); rintro e w1 ⟨rfl, hb⟩; have HB := Lib.hid hb; clear hb)
      | ((with_reducible refine (new_any _).mono ?_); rintro e w' ⟨rfl, rfl⟩))
    go_ret
    exact ⟨rfl, (HB.out.alloc HB.out.size _).alloc (by have := HB.out.size; simp; omega) _⟩
  · exact inner w A c l hr0 hlc n cut hcut (by omega)


set_option maxRecDepth 100000 in
theorem lifted (os : Os) (started : os.Started) (H : Type) (enc : TypeId × Value → H) :
    ReturnsInHanded {} Try.checked os 5 .any (Rows.drawPartsSpec.pre6 enc Try.prog Try.f5 Rows.drawPartsRow.domain false) (Rows.drawPartsSpec.post enc Try.prog Try.f5 false true false false) := by
  refine returnsInHanded_of_change (C := Try.checked) own started (by kernel_rfl) Try.func5
    (ChangeSpec.witness6 (enc := enc) (C := Try.checked) false ⟨#[], #[.slice none 0 0, .int .i64 0, .int .i64 0], []⟩ 8 (by kernel_rfl) (by kernel_rfl) (by kernel_rfl) (by kernel_rfl)) ?_
  intro W base args ds gs before hval0 hW hcnd _
  have hval : ∀ (j : Nat) t v, Try.f5.params[j]? = some t → args[j]? = some v → Value.okWide Try.prog W .any base t v := hval0
  have hW' := hW
  obtain ⟨p, q, hA0, hV, rfl, hfz, hnd⟩ := hW
  have hA : DataW.TrodAll enc Try.prog W 0 (fun _ => true) true Try.f5.params.toList args.toList ds p := hA0
  rw [Try.params5] at hA hval
  obtain ⟨v0, vs0, d0, ds0, p0, q0, hargs, rfl, rfl, h0, r0⟩ := trodAll_cons hA
  obtain ⟨v1, vs1, d1, ds1, p1, q1, rfl, rfl, rfl, h1, r1⟩ := trodAll_cons r0
  obtain ⟨v2, vs2, d2, ds2, p2, q2, rfl, rfl, rfl, h2, r2⟩ := trodAll_cons r1
  obtain ⟨rfl, rfl, rfl⟩ := trodAll_nil r2
  obtain rfl : args = #[v0, v1, v2] := by cases args; simp_all
  obtain ⟨rfl, rfl⟩ := trodVars_none hV
  clear hA0 hval0
  have hlt0 : ∀ x ∈ p0, x.block < W.heap.size := fun x hx => hW'.lt x (by simp [hx])
  have hk0 := h0
  obtain ⟨A0, c0, l0, rfl, hr0, hc0, hl0, hx0⟩ := Open.view (hval 0 22 v0 rfl rfl) h0 hlt0
  obtain ⟨a1, rfl, rfl, rfl, w1⟩ := open_int Try.underlying3 (hval 1 3 v1 rfl rfl) h1
  obtain ⟨a2, rfl, rfl, rfl, w2⟩ := open_int Try.underlying3 (hval 2 3 v2 rfl rfl) h2
  simp only [List.append_nil] at hW'
  refine (walk W A0 c0 l0 hr0 hc0 hl0 hx0 a1 (Open.fits_of w1) a2 (Open.fits_of w2)).mono fun e W' ⟨he, hg⟩ => ?_
  subst he
  exact ⟨_, rfl, _, _, _, [], _, [], hW', (trodAll_cons_mk (shut_bool Try.underlying4 _) trodAll_mk0), (trodAll_cons_mk (Below.trod Open.laidOut (by kernel_rfl) (of_decide_eq_true (by kernel_rfl)) hk0 hg hlt0) (trodAll_cons_mk (shut_int Try.underlying3 w1) (trodAll_cons_mk (shut_int Try.underlying3 w2) trodAll_mk0))), rfl, hg.frame _, fun h => by cases h⟩

theorem over : Rows.drawPartsRow.holds Try.pinned (OpenSpec.ofChange Rows.drawPartsSpec) :=
  OpenClaim.holds_of_wide 5 Try.f5 rfl rfl rfl rfl rfl rfl rfl ⟨rfl, rfl, rfl, rfl, rfl⟩ rfl rfl rfl rfl rfl (by kernel_rfl) Try.func5 (by kernel_rfl)
    (of_decide_eq_true (by kernel_rfl)) (by unfold Func.isWrapper; first | (rw [if_pos (by decide +kernel)]; kernel_rfl) | (rw [if_neg (by decide +kernel)]; exact ⟨rfl, rfl⟩))
    (fun os started H enc _ => lifted os started H enc)

/-- The given statement. -/
theorem proved : Rows.DrawPartsSaid :=
  over
#print axioms proved
end Go.Proofs.Ytieohegflcfnaaa.drawParts
