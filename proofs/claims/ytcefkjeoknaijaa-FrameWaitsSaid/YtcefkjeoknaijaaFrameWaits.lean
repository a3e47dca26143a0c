/-
  For every parts the law FrameWaits answers true: what waits is never more than a frame less one byte, and a dead feed stays so; no condition beyond the types.
-/
import Derived.Test.YtcefkjeoknaijaaUse
import Derived.Test.YtcefkjeoknaijaaOpen
import Derived.Test.YtcefkjeoknaijaaOpw
import Derived.Test.YtcefkjeoknaijaaOpr
import Derived.WalkKit
import Derived.ProofKit
import Derived.OpenShut
namespace Go.Proofs.Ytcefkjeoknaijaa.frameWaits
open Go.ChangeShapes Go.WideShapes Go.ChangeAt Go.RowKit
set_option linter.unusedVariables false

theorem own : ownKnob Try.prog.godebug = none := by kernel_rfl

open Con Mth Mem

theorem y_cases {y : Int} (h : y = 0 ∨ y = 2 ∨ y = 3) : ∃ d : Bool, (y != 0) = d ∧ (y == 14) = false ∧ ((d = false ∧ y = 0) ∨ (d = true ∧ (y != 0) = true)) := by
  rcases h with rfl | rfl | rfl
  · exact ⟨false, rfl, rfl, .inl ⟨rfl, rfl⟩⟩
  · exact ⟨true, rfl, rfl, .inr ⟨rfl, rfl⟩⟩
  · exact ⟨true, rfl, rfl, .inr ⟨rfl, rfl⟩⟩

set_option maxRecDepth 100000 in
set_option maxHeartbeats 4000000 in
theorem walk (w : World) (A : Option Addr) (c : Nat) (P : List (List Int)) (hr : Parts w w.heap.size A P) (hl : (P.length : Int) ≤ 140737488351232) (hx : ∀ x ∈ P, (x.length : Int) ≤ 140737488351232) :
    Calls Try.prog 6 #[.slice A P.length c] w fun e w' => e = .returned (.bool true) ∧ Below w.heap.size w w' := by
  have HR := Lib.hid hr; have HX := Lib.hid hx; clear hr hx
  cases hfew : fewB P with
  | false =>
    have HFew := Lib.hid hfew; clear hfew
    go_enter Try.func6, Try.ntmps6
    go_wp2_with (first
      | ((with_reducible refine (small_any _).mono ?_); rintro e w1 ⟨rfl, hb⟩; have HB := Lib.hid hb; clear hb)
      | ((with_reducible refine (few_no A c P _ w.heap.size (HR.out.below HB.out (Nat.le_refl _)) hl HX.out HFew.out).mono ?_); rintro e w' ⟨rfl, rfl⟩)
      | ((with_reducible refine (new_any _).mono ?_); rintro e w' ⟨rfl, rfl⟩))
    go_ret
    exact ⟨rfl, HB.out.alloc HB.out.size _⟩
  | true =>
    obtain ⟨hf1, hf2⟩ := few_of hfew
    have HFew := Lib.hid hfew; clear hfew
    go_enter Try.func6, Try.ntmps6
    go_wp2_with (first
      | ((with_reducible refine (small_any _).mono ?_); rintro e w1 ⟨rfl, hb⟩; have HB := Lib.hid hb; clear hb)
      | ((with_reducible refine (few_yes A c P _ w.heap.size (HR.out.below HB.out (Nat.le_refl _)) hl HX.out HFew.out).mono ?_); rintro e w' ⟨rfl, rfl⟩)
      | ((with_reducible refine (new_any _).mono ?_); rintro e w' ⟨rfl, rfl⟩))
    go_loopg [6, 7] P.length (fun m s6 s7 wr => ∃ (k : Nat) (r : Option Nat) (l : List Int) (d : Bool), k ≤ P.length ∧ m = P.length - k ∧ s6 = .bool d ∧ s7 = .int .i64 (k : Int) ∧ (l.length : Int) ≤ 4104 ∧ Hid (Feed wr w.heap.size w1.heap.size r l d) ∧ Hid (Byt l) ∧ Hid (d = true → l = []) ∧ Hid (Below w.heap.size w wr))
    case atStart => exact ⟨0, none, [], false, by omega, rfl, rfl, rfl, by simp, Lib.hid ((feed_new w1).more HB.out.size), Lib.hid Byt.nil, Lib.hid (fun _ => rfl), Lib.hid (HB.out.alloc HB.out.size _)⟩
    case round =>
      obtain ⟨k, r, l, d, hk, rfl, rfl, rfl, hll, HF, HBy, HD, HBr⟩ := hrel
      by_cases hlt : k < P.length
      · have hlt' : (k : Int) < P.length := by omega
        obtain ⟨b, off, x, a, c', rfl, _, hx, hc, hrx, hbx⟩ := (HR.out.below HBr.out (Nat.le_refl _)).at' hlt
        have hxl := tot_at hx
        have hxl' : (x.length : Int) ≤ 16384 := by omega
        have HRx := Lib.hid hrx; have HBx := Lib.hid hbx; clear hrx hbx hx hxl
        cases d with
        | true =>
          obtain rfl := HD.out rfl
          go_wp2_with (first
            | ((with_reducible refine (push_dead HF.out _ _ _).mono ?_); rintro e w' ⟨rfl, rfl⟩)
            | ((with_reducible refine (dead_any HF.out).mono ?_); rintro e w' ⟨rfl, rfl⟩)
            | ((with_reducible refine (waits_any HF.out).mono ?_); rintro e w' ⟨rfl, rfl⟩))
          go_loopg [10] 0 (fun m s10 wq => m = 0 ∧ s10 = .int .i64 0 ∧ wr = wq)
          case atStart => exact ⟨rfl, rfl, rfl⟩
          case round =>
            obtain ⟨rfl, rfl, rfl⟩ := hrel
            go_wp2
            go_roundg (P.length - (k + 1))
            case measure => omega
            case rel => exact ⟨k + 1, r, [], true, by omega, rfl, rfl, by go_num, by simp, HF, HBy, Lib.hid (fun _ => rfl), HBr⟩
        | false =>
          rcases hp : parse (l ++ x) with ⟨L, z, y⟩
          have hpa := parse_any (HBy.out.app HBx.out)
          rw [hp] at hpa
          obtain ⟨d, hd, hy14, hdy⟩ := y_cases hpa.err
          have hz : (z.length : Int) ≤ 4104 := by have := hpa.few; simp only at this; omega
          have hLl : (L.length : Int) ≤ 30000 := by have := hpa.less; simp only [List.length_append] at this; omega
          have HPA := Lib.hid hpa; have HPP := Lib.hid hp
          clear hpa hp
          rcases hdy with ⟨rfl, rfl⟩ | ⟨rfl, hy0⟩
          · have HDy := Lib.hid hd; clear hd
            go_wp2_with (first
              | ((with_reducible refine (x_push HF.out HBr.out HRx.out hll (by omega) HBy.out HBx.out HPP.out false HDy.out).mono ?_); rintro e w2 ⟨A2, c2, r2, rfl, HF2, HR2, HB2, HT2, HX2⟩)
              | ((with_reducible refine (dead_any HF2.out).mono ?_); rintro e w' ⟨rfl, rfl⟩)
              | ((with_reducible refine (waits_any HF2.out).mono ?_); rintro e w' ⟨rfl, rfl⟩))
            go_loopg [10] L.length (fun m s10 wq => ∃ j : Nat, j ≤ L.length ∧ m = L.length - j ∧ s10 = .int .i64 (j : Int) ∧ w2 = wq)
            case atStart => exact ⟨0, by omega, rfl, rfl, rfl⟩
            case round =>
              obtain ⟨j, hj, rfl, rfl, rfl⟩ := hrel
              by_cases hjl : j < L.length
              · have hjl' : (j : Int) < L.length := by omega
                obtain ⟨g3, x3, A3, c3, rfl, hx3, hc3, _, _⟩ := HR2.out.at' hjl
                have hx4 : x3.length ≤ 4096 := (HPA.out.loads x3 (List.mem_of_getElem? hx3)).1
                have hx4' : (x3.length : Int) ≤ 4096 := by omega
                clear hx3 hx4
                go_wp2
                go_roundg (L.length - (j + 1))
                case measure => omega
                case rel => exact ⟨j + 1, by omega, rfl, by go_num, rfl⟩
              · have hjl' : decide ((j : Int) < L.length) = false := by simp; omega
                go_wp2
                go_roundg (P.length - (k + 1))
                case measure => omega
                case rel => exact ⟨k + 1, r2, z, false, by omega, rfl, rfl, by go_num, hz, HF2, Lib.hid HPA.out.byt, Lib.hid (fun h => by cases h), HB2⟩
          · have HDy := Lib.hid hd; clear hd
            obtain rfl : z = [] := HPA.out.gone (by simpa using hy0)
            go_wp2_with (first
              | ((with_reducible refine (x_push HF.out HBr.out HRx.out hll (by omega) HBy.out HBx.out HPP.out true HDy.out).mono ?_); rintro e w2 ⟨A2, c2, r2, rfl, HF2, HR2, HB2, HT2, HX2⟩)
              | ((with_reducible refine (dead_any HF2.out).mono ?_); rintro e w' ⟨rfl, rfl⟩)
              | ((with_reducible refine (waits_any HF2.out).mono ?_); rintro e w' ⟨rfl, rfl⟩))
            go_loopg [10] L.length (fun m s10 wq => ∃ j : Nat, j ≤ L.length ∧ m = L.length - j ∧ s10 = .int .i64 (j : Int) ∧ w2 = wq)
            case atStart => exact ⟨0, by omega, rfl, rfl, rfl⟩
            case round =>
              obtain ⟨j, hj, rfl, rfl, rfl⟩ := hrel
              by_cases hjl : j < L.length
              · have hjl' : (j : Int) < L.length := by omega
                obtain ⟨g3, x3, A3, c3, rfl, hx3, hc3, _, _⟩ := HR2.out.at' hjl
                have hx4 : x3.length ≤ 4096 := (HPA.out.loads x3 (List.mem_of_getElem? hx3)).1
                have hx4' : (x3.length : Int) ≤ 4096 := by omega
                clear hx3 hx4
                go_wp2
                go_roundg (L.length - (j + 1))
                case measure => omega
                case rel => exact ⟨j + 1, by omega, rfl, by go_num, rfl⟩
              · have hjl' : decide ((j : Int) < L.length) = false := by simp; omega
                go_wp2
                go_roundg (P.length - (k + 1))
                case measure => omega
                case rel => exact ⟨k + 1, r2, [], true, by omega, rfl, rfl, by go_num, by simp, HF2, Lib.hid Byt.nil, Lib.hid (fun _ => rfl), HB2⟩
      · have hlt' : decide ((k : Int) < P.length) = false := by simp; omega
        go_wp2
        go_ret
        exact ⟨rfl, HBr.out⟩


set_option maxRecDepth 100000 in
theorem lifted (os : Os) (started : os.Started) (H : Type) (enc : TypeId × Value → H) :
    ReturnsInHanded {} Try.checked os 6 .any (Rows.frameWaitsSpec.pre6 enc Try.prog Try.f6 Rows.frameWaitsRow.domain false) (Rows.frameWaitsSpec.post enc Try.prog Try.f6 false true false false) := by
  refine returnsInHanded_of_change_sized (C := Try.checked) own started (by kernel_rfl) Try.func6
    (ChangeSpec.witness6 (enc := enc) (C := Try.checked) false ⟨#[], #[.slice none 0 0], []⟩ 8 (by kernel_rfl) (by kernel_rfl) (by kernel_rfl) (by kernel_rfl)) ?_
  intro W base args ds gs before hval0 hW hcnd hsz0 _
  have hval : ∀ (j : Nat) t v, Try.f6.params[j]? = some t → args[j]? = some v → Value.okWide Try.prog W .any base t v := hval0
  have hW' := hW
  obtain ⟨p, q, hA0, hV, rfl, hfz, hnd⟩ := hW
  have hA : DataW.TrodAll enc Try.prog W 0 (fun _ => true) true Try.f6.params.toList args.toList ds p := hA0
  rw [Try.params6] at hA hval
  obtain ⟨v0, vs0, d0, ds0, p0, q0, hargs, rfl, rfl, h0, r0⟩ := trodAll_cons hA
  obtain ⟨rfl, rfl, rfl⟩ := trodAll_nil r0
  obtain rfl : args = #[v0] := by cases args; simp_all
  obtain ⟨rfl, rfl⟩ := trodVars_none hV
  clear hA0 hval0
  have hsz : (DataW.weightsEach Try.prog [22] [d0]).all (· ≤ reachBytes) = true := hsz0
  clear hsz0
  have hlt0 : ∀ x ∈ p0, x.block < W.heap.size := fun x hx => hW'.lt x (by simp [hx])
  have hk0 := h0
  obtain ⟨A0, c0, l0, rfl, hr0, hl0, hx0⟩ := Opr.view2 (j := 0) (hval 0 22 v0 rfl rfl) h0 hsz rfl rfl
  simp only [List.append_nil] at hW'
  refine (walk W A0 c0 l0 hr0 hl0 hx0).mono fun e W' ⟨he, hg⟩ => ?_
  subst he
  exact ⟨_, rfl, _, _, _, [], _, [], hW', (trodAll_cons_mk (shut_bool Try.underlying4 _) trodAll_mk0), (trodAll_cons_mk (Below.trod Open.laidOut (by kernel_rfl) (of_decide_eq_true (by kernel_rfl)) hk0 hg hlt0) trodAll_mk0), rfl, hg.frame _, fun h => by cases h⟩

theorem over : Rows.frameWaitsRow.holds Try.pinned (OpenSpec.ofChange Rows.frameWaitsSpec) :=
  OpenClaim.holds_of_wide 6 Try.f6 rfl rfl rfl rfl rfl rfl rfl ⟨rfl, rfl, rfl, rfl, rfl⟩ rfl rfl rfl rfl rfl (by kernel_rfl) Try.func6 (by kernel_rfl)
    (of_decide_eq_true (by kernel_rfl)) (by unfold Func.isWrapper; first | (rw [if_pos (by decide +kernel)]; kernel_rfl) | (rw [if_neg (by decide +kernel)]; exact ⟨rfl, rfl⟩))
    (fun os started H enc _ => lifted os started H enc)

/-- The given statement. -/
theorem proved : Rows.FrameWaitsSaid :=
  over
#print axioms proved
end Go.Proofs.Ytcefkjeoknaijaa.frameWaits
