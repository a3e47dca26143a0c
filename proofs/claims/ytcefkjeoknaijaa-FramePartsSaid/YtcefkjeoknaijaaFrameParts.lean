/-
  For every parts the law FrameParts answers true: however bytes come in parts, the same loads come out, in the same order; no condition beyond the types.
-/
import Derived.Test.YtcefkjeoknaijaaMid
import Derived.Test.YtcefkjeoknaijaaOpen
import Derived.Test.YtcefkjeoknaijaaOpw
import Derived.Test.YtcefkjeoknaijaaOpr
import Derived.WalkKit
import Derived.ProofKit
import Derived.OpenShut
namespace Go.Proofs.Ytcefkjeoknaijaa.frameParts
open Go.ChangeShapes Go.WideShapes Go.ChangeAt Go.RowKit
set_option linter.unusedVariables false

theorem own : ownKnob Try.prog.godebug = none := by kernel_rfl

open Con Mth Mem

theorem cell_keep {w w' : World} {B b off : Nat} {v : Value} (h : w.cell? ⟨b, off, none⟩ = some v) (hb : Below B w w') (hlt : b < B) : w'.cell? ⟨b, off, none⟩ = some v := (World.cell?_of_block (w := w) (hb.block b hlt)).trans h
theorem y_err {y : Int} (h : y = 0 ∨ y = 2 ∨ y = 3) : (y == 14) = false := by rcases h with rfl | rfl | rfl <;> rfl
theorem two_new (w0 w1 : World) (hb : Below w0.heap.size w0 w1) : Mid w0 ((w1.alloc (.cells #[.slice none 0 0, .bool false] 41)).alloc (.cells #[.slice none 0 0, .bool false] 41)) w0.heap.size (w1.heap.size + 2) w1.heap.size (w1.heap.size + 1) none [] false none 0 [] none 0 [] := by
  have hs := hb.size
  have e : (w1.alloc (.cells #[.slice none 0 0, .bool false] 41)).heap.size = w1.heap.size + 1 := by simp
  have fy := feed_new (w1.alloc (.cells #[.slice none 0 0, .bool false] 41))
  rw [e] at fy
  exact ⟨((feed_new w1).alloc _).more hs, fy.more (by omega), Rows.nil _ _ _, Rows.nil _ _ _, World.ownsRow_nil _ _ 5 1, fun j hj => by simp [blk] at hj, (hb.alloc hs _).alloc (by simp; omega) _, by omega, by omega, by omega, by simp, by omega⟩

set_option maxRecDepth 100000 in
set_option maxHeartbeats 4000000 in
theorem walk (w : World) (A : Option Addr) (c : Nat) (P : List (List Int)) (hr : Parts w w.heap.size A P) (hl : (P.length : Int) ≤ 140737488351232) (hx : ∀ x ∈ P, (x.length : Int) ≤ 140737488351232) :
    Calls Try.prog 4 #[.slice A P.length c] w fun e w' => e = .returned (.bool true) ∧ Below w.heap.size w w' := by
  have HR := Lib.hid hr; have HX := Lib.hid hx; clear hr hx
  cases hfew : fewB P with
  | false =>
    have HFew := Lib.hid hfew; clear hfew
    go_enter Try.func4, Try.ntmps4
    go_wp2_with (first
      | ((with_reducible refine (small_any _).mono ?_); rintro e w1 ⟨rfl, hb⟩; have HB := Lib.hid hb; clear hb)
      | ((with_reducible refine (few_no A c P _ w.heap.size (HR.out.below HB.out (Nat.le_refl _)) hl HX.out HFew.out).mono ?_); rintro e w' ⟨rfl, rfl⟩)
      | ((with_reducible refine (new_any _).mono ?_); rintro e w' ⟨rfl, rfl⟩))
    go_ret
    exact ⟨rfl, (HB.out.alloc HB.out.size _).alloc (by have := HB.out.size; simp; omega) _⟩
  | true =>
    obtain ⟨hf1, hf2⟩ := few_of hfew
    have HFew := Lib.hid hfew; clear hfew
    go_enter Try.func4, Try.ntmps4
    go_wp2_with (first
      | ((with_reducible refine (small_any _).mono ?_); rintro e w1 ⟨rfl, hb⟩; have HB := Lib.hid hb; clear hb)
      | ((with_reducible refine (few_yes A c P _ w.heap.size (HR.out.below HB.out (Nat.le_refl _)) hl HX.out HFew.out).mono ?_); rintro e w' ⟨rfl, rfl⟩)
      | ((with_reducible refine (new_any _).mono ?_); rintro e w' ⟨rfl, rfl⟩))
    go_loopg [7, 8, 9, 10] P.length (fun m s7 s8 s9 s10 wr => ∃ (k : Nat) (rx : Option Nat) (lx : List Int) (d : Bool) (Ao : Option Addr) (co : Nat) (Lo : List (List Int)) (Aa : Option Addr) (ca : Nat) (la : List Int) (e : Int), k ≤ P.length ∧ m = P.length - k ∧ s7 = .slice Aa la.length ca ∧ s8 = .slice Ao Lo.length co ∧ s9 = .int .i64 e ∧ s10 = .int .i64 (k : Int) ∧ Hid ((e != 0) = d) ∧ Hid (Mid w wr w.heap.size (w1.heap.size + 2) w1.heap.size (w1.heap.size + 1) rx lx d Ao co Lo Aa ca la) ∧ Hid (parse la = (Lo, lx, e)) ∧ Hid (Byt la) ∧ Hid (la.length = tot (P.take k)))
    case atStart => exact ⟨0, none, [], false, none, 0, [], none, 0, [], 0, by omega, rfl, rfl, rfl, rfl, rfl, Lib.hid rfl, Lib.hid (two_new w w1 HB.out), Lib.hid parse_nil, Lib.hid Byt.nil, Lib.hid (by simp [tot])⟩
    case round =>
      obtain ⟨k, rx, lx, d, Ao, co, Lo, Aa, ca, la, e, hk, rfl, rfl, rfl, rfl, rfl, HDe, HM, HPa, HBa, HLa⟩ := hrel
      have HPd := Lib.hid (parse_any HBa.out)
      have hla : (la.length : Int) ≤ 16384 := by have := tot_le P k; rw [HLa.out]; omega
      have hLo : (Lo.length : Int) ≤ 16384 := by have := HPd.out.less; rw [HPa.out] at this; simp only at this; omega
      have hlx : (lx.length : Int) ≤ 4104 := by have := HPd.out.few; rw [HPa.out] at this; simp only at this; omega
      have HBx' : Hid (Byt lx) := Lib.hid (by have := HPd.out.byt; rw [HPa.out] at this; exact this)
      by_cases hlt : k < P.length
      · have hlt' : (k : Int) < P.length := by omega
        obtain ⟨b, off, x, a, c', rfl, hbw, hx, hcw, hrx, hbx⟩ := HR.out.at' hlt
        have hc := cell_keep hcw HM.out.below hbw
        have hxl := tot_at hx
        have hxl' : (x.length : Int) ≤ 16384 := by omega
        have HN := Lib.hid (tot_next hx)
        have HRx := Lib.hid hrx; have HBx := Lib.hid hbx; have HCW := Lib.hid hcw; clear hrx hbx hx hxl hcw
        have HBn := Lib.hid (HBa.out.app HBx.out)
        cases d with
        | true =>
          have he0 : (e == 0) = false := by have := HDe.out; simpa using this
          have HE0 : Hid (e ≠ 0) := Lib.hid (by have := HDe.out; simpa using this)
          go_wp2_with (first
            | ((with_reducible refine (push_dead HM.out.fx _ _ _).mono ?_); rintro e w' ⟨rfl, rfl⟩)
            | (at_builtin; refine wpList_app2 rfl (.tmp 63) (.tmp 64) rfl (w1.heap.size + 2) rx (blk Aa) Ao co Lo [] none _ _ rfl rfl rfl HM.out.r1 HM.out.r2 (Rows.nil _ _ _) (Rows.nil _ _ _) (by simp; omega) HM.out.hlo (fun k hk => (HM.out.fx.lt.2.2 k hk).2) (fun k hk => (HM.out.aLt k hk).2) ?_; intro A3 c3 w3 L3 HL3 HR3 HR3' HS3; have HM3 := Lib.hid (HM.out.out HS3.out HR3.out HR3'.out); have hc3 := cell_keep HCW.out HM3.out.below hbw)
            | (at_builtin; refine wpList_app (K := .u8) (t := 23) (e := 5) Try.underlying23 byte_info rfl (by omega) rfl (.tmp 66) (.tmp 70) rfl (w1.heap.size + 2) w.heap.size Aa ca la x a c' rfl rfl HM3.out.oa (HRx.out.below HM3.out.below (Nat.le_refl _)) (by omega) HM3.out.hlo ?_; intro A4 c4 w4 l4 HL4 HO4 HS4; have HM4 := Lib.hid (HM3.out.all HS4.out HO4.out)))
          go_roundg (P.length - (k + 1))
          case measure => omega
          case rel =>
            have e3 : L3 = Lo := by rw [HL3.out, List.append_nil]
            subst e3
            exact ⟨k + 1, rx, lx, true, A3, c3, L3, A4, c4, l4, e, by omega, rfl, rfl, rfl, rfl, by go_num, HDe, HM4, Lib.hid (by rw [HL4.out]; exact parts_dead HBn.out HPa.out HE0.out), Lib.hid (by rw [HL4.out]; exact HBn.out), Lib.hid (by rw [HL4.out, HN.out, List.length_append, HLa.out])⟩
        | false =>
          obtain rfl : e = 0 := by have := HDe.out; simpa using this
          rcases hp : parse (lx ++ x) with ⟨L, z, y⟩
          have hpa := parse_any (HBx'.out.app HBx.out)
          rw [hp] at hpa
          have hy14 := y_err hpa.err
          obtain ⟨d, hd⟩ : ∃ d, (y != 0) = d := ⟨_, rfl⟩
          have hLl : (L.length : Int) ≤ 30000 := by have := hpa.less; simp only [List.length_append] at this; omega
          have HPP := Lib.hid hp; have HDy := Lib.hid hd
          clear hpa hp hd
          go_wp2_with (first
            | ((with_reducible refine (x_push HM.out.fx HM.out.below (HRx.out.below HM.out.below (Nat.le_refl _)) hlx (by omega) HBx'.out HBx.out HPP.out d HDy.out).mono ?_); rintro e w2 ⟨A2, c2, r2, rfl, HF2, HR2, HB2, HT2, HX2⟩; have HM2 := Lib.hid (HM.out.push HF2.out HT2.out HX2.out); have HQ2 := Lib.hid (HM.out.aAvoid HR2.out))
            | (at_builtin; refine wpList_app2 rfl (.tmp 63) (.tmp 64) rfl (w1.heap.size + 2) r2 (blk Aa) Ao co Lo L A2 _ c2 rfl rfl rfl HM2.out.r1 HM2.out.r2 HQ2.out.1 HQ2.out.2 (by omega) HM2.out.hlo (fun k hk => (HM2.out.fx.lt.2.2 k hk).2) (fun k hk => (HM2.out.aLt k hk).2) ?_; intro A3 c3 w3 L3 HL3 HR3 HR3' HS3; have HM3 := Lib.hid (HM2.out.out HS3.out HR3.out HR3'.out); have hc3 := cell_keep HCW.out HM3.out.below hbw)
            | (at_builtin; refine wpList_app (K := .u8) (t := 23) (e := 5) Try.underlying23 byte_info rfl (by omega) rfl (.tmp 66) (.tmp 70) rfl (w1.heap.size + 2) w.heap.size Aa ca la x a c' rfl rfl HM3.out.oa (HRx.out.below HM3.out.below (Nat.le_refl _)) (by omega) HM3.out.hlo ?_; intro A4 c4 w4 l4 HL4 HO4 HS4; have HM4 := Lib.hid (HM3.out.all HS4.out HO4.out)))
          go_roundg (P.length - (k + 1))
          case measure => omega
          case rel => exact ⟨k + 1, r2, z, d, A3, c3, L3, A4, c4, l4, y, by omega, rfl, rfl, rfl, rfl, by go_num, HDy, HM4, Lib.hid (by rw [HL4.out, HL3.out]; exact parts_next HBn.out HPa.out HPP.out), Lib.hid (by rw [HL4.out]; exact HBn.out), Lib.hid (by rw [HL4.out, HN.out, List.length_append, HLa.out])⟩
      · have hlt' : decide ((k : Int) < P.length) = false := by simp; omega
        have HRa := Lib.hid (Rd.of_own HM.out.oa)
        have HPn : Hid (parse ([] ++ la) = (Lo, lx, e)) := HPa
        have HLb : Hid (∀ x ∈ Lo, Byt x) := Lib.hid (fun x hx => (by have := HPd.out.loads; rw [HPa.out] at this; exact (this x hx).2))
        go_wp2_with (first
          | ((with_reducible refine (x_push HM.out.fy HM.out.below HRa.out (by simp) (by omega) Byt.nil HBa.out HPn.out d HDe.out).mono ?_); rintro e w2 ⟨A2, c2, r2, rfl, HF2, HR2, HB2, HT2, HX2⟩; have HRo := Lib.hid (rows_kept (HM.out.r1.other (f' := none) (fun _ _ _ _ => by simp)) HM.out.loy HT2.out (r' := none) (.inl rfl)); have HFx := Lib.hid (HM.out.fx.keep (HT2.out.block _ HM.out.fx.lt.2.1 HM.out.gxy (by simp)) (fun k hk => HT2.out.block k (HM.out.fx.lt.2.2 k hk).2 (fun e => HM.out.fy.ne_feed HM.out.fx (by rw [hk, e])) (by simp))))
          | ((with_reducible refine (same_yes w2 Ao A2 co c2 Lo _ _ rfl rfl _ _ (HRo.out.parts HLb.out) (HR2.out.parts HLb.out) (by omega)).mono ?_); rintro e w8 ⟨rfl, q8, HW8⟩; have HFx8 : Hid (Feed w8 w.heap.size w1.heap.size rx lx d) := Lib.hid (HW8 ▸ HFx.out.drewN q8); have HFy8 : Hid (Feed w8 w.heap.size (w1.heap.size + 1) r2 lx d) := Lib.hid (HW8 ▸ HF2.out.drewN q8); have HB8 : Hid (Below w.heap.size w w8) := Lib.hid (HW8 ▸ ⟨HB2.out.os, HB2.out.tape, HB2.out.output, HB2.out.size, HB2.out.block⟩); clear HW8)
          | ((with_reducible refine (waits_any HFx8.out).mono ?_); rintro e w' ⟨rfl, rfl⟩)
          | ((with_reducible refine (waits_any HFy8.out).mono ?_); rintro e w' ⟨rfl, rfl⟩)
          | ((with_reducible refine (dead_any HFx8.out).mono ?_); rintro e w' ⟨rfl, rfl⟩)
          | ((with_reducible refine (dead_any HFy8.out).mono ?_); rintro e w' ⟨rfl, rfl⟩))
        go_ret
        exact ⟨rfl, HB8.out⟩


set_option maxRecDepth 100000 in
theorem lifted (os : Os) (started : os.Started) (H : Type) (enc : TypeId × Value → H) :
    ReturnsInHanded {} Try.checked os 4 .any (Rows.framePartsSpec.pre6 enc Try.prog Try.f4 Rows.framePartsRow.domain false) (Rows.framePartsSpec.post enc Try.prog Try.f4 false true false false) := by
  refine returnsInHanded_of_change_sized (C := Try.checked) own started (by kernel_rfl) Try.func4
    (ChangeSpec.witness6 (enc := enc) (C := Try.checked) false ⟨#[], #[.slice none 0 0], []⟩ 8 (by kernel_rfl) (by kernel_rfl) (by kernel_rfl) (by kernel_rfl)) ?_
  intro W base args ds gs before hval0 hW hcnd hsz0 _
  have hval : ∀ (j : Nat) t v, Try.f4.params[j]? = some t → args[j]? = some v → Value.okWide Try.prog W .any base t v := hval0
  have hW' := hW
  obtain ⟨p, q, hA0, hV, rfl, hfz, hnd⟩ := hW
  have hA : DataW.TrodAll enc Try.prog W 0 (fun _ => true) true Try.f4.params.toList args.toList ds p := hA0
  rw [Try.params4] at hA hval
  obtain ⟨v0, vs0, d0, ds0, p0, q0, hargs, rfl, rfl, h0, r0⟩ := trodAll_cons hA
  obtain ⟨rfl, rfl, rfl⟩ := trodAll_nil r0
  obtain rfl : args = #[v0] := by cases args; simp_all
  obtain ⟨rfl, rfl⟩ := trodVars_none hV
  clear hA0 hval0
  have hsz : (DataW.weightsEach Try.prog [22] [d0]).all (· ≤ reachBytes) = true := hsz0
  clear hsz0
  have hlt0 : ∀ x ∈ p0, x.block < W.heap.size := fun x hx => hW'.lt x (by simp [hx])
  have hk0 := h0
  obtain ⟨A0, c0, l0, rfl, hr0, hl0, hx0⟩ := Opr.view2 (j := 0) (hval 0 22 v0 rfl rfl) h0 hsz rfl rfl
  simp only [List.append_nil] at hW'
  refine (walk W A0 c0 l0 hr0 hl0 hx0).mono fun e W' ⟨he, hg⟩ => ?_
  subst he
  exact ⟨_, rfl, _, _, _, [], _, [], hW', (trodAll_cons_mk (shut_bool Try.underlying4 _) trodAll_mk0), (trodAll_cons_mk (Below.trod Open.laidOut (by kernel_rfl) (of_decide_eq_true (by kernel_rfl)) hk0 hg hlt0) trodAll_mk0), rfl, hg.frame _, fun h => by cases h⟩

theorem over : Rows.framePartsRow.holds Try.pinned (OpenSpec.ofChange Rows.framePartsSpec) :=
  OpenClaim.holds_of_wide 4 Try.f4 rfl rfl rfl rfl rfl rfl rfl ⟨rfl, rfl, rfl, rfl, rfl⟩ rfl rfl rfl rfl rfl (by kernel_rfl) Try.func4 (by kernel_rfl)
    (of_decide_eq_true (by kernel_rfl)) (by unfold Func.isWrapper; first | (rw [if_pos (by decide +kernel)]; kernel_rfl) | (rw [if_neg (by decide +kernel)]; exact ⟨rfl, rfl⟩))
    (fun os started H enc _ => lifted os started H enc)

/-- The given statement. -/
theorem proved : Rows.FramePartsSaid :=
  over
#print axioms proved
end Go.Proofs.Ytcefkjeoknaijaa.frameParts
