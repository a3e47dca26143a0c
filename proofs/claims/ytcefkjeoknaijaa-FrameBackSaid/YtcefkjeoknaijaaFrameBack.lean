/-
  For every loads and every place of a cut the law FrameBack answers true: loads that were wrapped come out, wherever the bytes are cut; no condition beyond the types.
-/
import Derived.Test.YtcefkjeoknaijaaGrd
import Derived.Test.YtcefkjeoknaijaaOpen
import Derived.Test.YtcefkjeoknaijaaOpw
import Derived.Test.YtcefkjeoknaijaaOpr
import Derived.WalkKit
import Derived.ProofKit
import Derived.OpenShut
namespace Go.Proofs.Ytcefkjeoknaijaa.frameBack
open Go.ChangeShapes Go.WideShapes Go.ChangeAt Go.RowKit
set_option linter.unusedVariables false

theorem own : ownKnob Try.prog.godebug = none := by kernel_rfl

open Con Mth Mem

theorem back_cut {la : List Int} {P : List (List Int)} (hla : la = frames P) (hP : ∀ x ∈ P, x.length ≤ 4096 ∧ Byt x) (k : Nat) : ∃ L1 z1 L2, parse ([] ++ la.take k) = (L1, z1, 0) ∧ parse (z1 ++ la.drop k) = (L2, [], 0) ∧ L1 ++ L2 = P ∧ Byt z1 ∧ (z1.length : Int) ≤ 4104 ∧ (L1.length : Int) + L2.length = P.length := by
  have hb : Byt la := by rw [hla]; exact frames_byt hP
  have hp : parse la = (P, [], 0) := by rw [hla]; exact parse_frames hP
  have ha := parse_app (l := la.take k) (la.drop k) (by rw [List.take_append_drop]; exact hb)
  rw [List.take_append_drop, hp] at ha
  have hpa := parse_any (hb.take k)
  rcases h1 : parse (la.take k) with ⟨L1, z1, e1⟩
  rw [h1] at ha hpa
  simp only at ha
  have he : e1 = 0 := by
    by_cases h : e1 = 0
    · exact h
    · have := ha.1 h
      injection this with _ h2
      injection h2 with _ h3
      exact h3.symm
  subst he
  have h2 := ha.2 rfl
  rcases h3 : parse (z1 ++ la.drop k) with ⟨L2, z2, e2⟩
  rw [h3] at h2
  simp only [Prod.mk.injEq] at h2
  obtain ⟨a1, a2, a3⟩ := h2
  subst a2; subst a3
  have hf := hpa.few
  simp only at hf
  refine ⟨L1, z1, L2, h1, h3, a1.symm, hpa.byt, by omega, ?_⟩
  rw [a1, List.length_append]
  omega
theorem frames_next {P : List (List Int)} {k : Nat} {x la lm lb : List Int} (hx : P[k]? = some x) (h1 : la = frames (P.take k)) (h2 : lm = frm x) (h3 : lb = la ++ lm) : lb = frames (P.take (k + 1)) := by
  obtain ⟨hk, rfl⟩ := List.getElem?_eq_some_iff.1 hx
  rw [h3, h2, h1, List.take_succ_eq_append_getElem hk]
  simp only [frames, List.map_append, List.flatten_append, List.map_cons, List.map_nil, List.flatten_cons, List.flatten_nil, List.append_nil]
theorem frames_room {P : List (List Int)} (k : Nat) {la : List Int} (h : la = frames (P.take k)) (h4 : ∀ x ∈ P.take k, x.length ≤ 4096) : la.length ≤ tot (P.take k) + 10 * (P.take k).length := by
  subst h
  generalize P.take k = Q at h4
  induction Q with
  | nil => simp [frames]
  | cons x Q ih =>
    have h1 := ih (fun y hy => h4 y (List.mem_cons_of_mem _ hy))
    have h2 := frm_len (h4 x (by simp))
    have e : frames (x :: Q) = frm x ++ frames Q := rfl
    have e2 : tot (x :: Q) = x.length + tot Q := by simp [tot]
    rw [e, e2, List.length_append, List.length_cons]
    omega
theorem small_next {P : List (List Int)} {k : Nat} {x : List Int} (hx : P[k]? = some x) (h : ∀ y ∈ P.take k, y.length ≤ 4096) (h1 : (x.length : Int) ≤ 4096) : ∀ y ∈ P.take (k + 1), y.length ≤ 4096 := by
  obtain ⟨hk, rfl⟩ := List.getElem?_eq_some_iff.1 hx
  rw [List.take_succ_eq_append_getElem hk]
  intro y hy
  rcases List.mem_append.1 hy with hy | hy
  · exact h y hy
  · simp at hy
    subst hy
    omega
theorem parts_byt {w : World} {B : Nat} {A : Option Addr} {P : List (List Int)} (h : Parts w B A P) : ∀ x ∈ P, Byt x := by
  intro x hx
  obtain ⟨k, hk, rfl⟩ := List.mem_iff_getElem.1 hx
  obtain ⟨_, _, y, _, _, _, _, hy, _, _, hb⟩ := h.at' hk
  rw [List.getElem?_eq_getElem hk] at hy
  injection hy with hy
  rw [hy]; exact hb
theorem rd_at0 {K : IntKind} {w : World} {B : Nat} {A : Option Addr} {l : List Int} {n : Nat} (hn : n = 0) (h : Rd K w B A l) : Rd K w B A (l.drop n) := by subst hn; exact h
theorem rd_map {K : IntKind} {w : World} {B : Nat} {A : Option Addr} {l : List Int} (h : Rd K w B A l) (k : Nat) : Rd K w B (A.map fun x => x.add k) (l.drop k) := by
  rcases h with rfl | ⟨b, off, rfl, hb, hc⟩
  · exact .inl (by simp)
  · have : ((some (⟨b, off, none⟩ : Addr)).map fun x => x.add k) = some ⟨b, off + k, none⟩ := by simp [add_none]
    rw [this]
    exact Rd.cut (.inr ⟨b, off, rfl, hb, hc⟩) k

set_option maxRecDepth 100000 in
set_option maxHeartbeats 4000000 in
theorem walk (w : World) (A : Option Addr) (c : Nat) (P : List (List Int)) (hr : Parts w w.heap.size A P) (hl : (P.length : Int) ≤ 140737488351232) (hx : ∀ x ∈ P, (x.length : Int) ≤ 140737488351232) (cut : Int) (hcut : -9223372036854775808 ≤ cut ∧ cut ≤ 9223372036854775807) :
    Calls Try.prog 5 #[.slice A P.length c, .int .i64 cut] w fun e w' => e = .returned (.bool true) ∧ Below w.heap.size w w' := by
  have HR := Lib.hid hr; have HX := Lib.hid hx; clear hr hx
  have HPB := Lib.hid (parts_byt HR.out)
  cases hfew : fewB P with
  | false =>
    have HFew := Lib.hid hfew; clear hfew
    go_enter Try.func5, Try.ntmps5
    go_wp2_with (first
      | ((with_reducible refine (small_any _).mono ?_); rintro e w1 ⟨rfl, hb⟩; have HB := Lib.hid hb; clear hb)
      | ((with_reducible refine (few_no A c P _ w.heap.size (HR.out.below HB.out (Nat.le_refl _)) hl HX.out HFew.out).mono ?_); rintro e w' ⟨rfl, rfl⟩)
      | ((with_reducible refine (new_any _).mono ?_); rintro e w' ⟨rfl, rfl⟩))
    go_ret
    exact ⟨rfl, HB.out.alloc HB.out.size _⟩
  | true =>
    obtain ⟨hf1, hf2⟩ := few_of hfew
    have HFew := Lib.hid hfew; clear hfew
    go_enter Try.func5, Try.ntmps5
    go_wp2_with (first
      | ((with_reducible refine (small_any _).mono ?_); rintro e w1 ⟨rfl, hb⟩; have HB := Lib.hid hb; clear hb)
      | ((with_reducible refine (few_yes A c P _ w.heap.size (HR.out.below HB.out (Nat.le_refl _)) hl HX.out HFew.out).mono ?_); rintro e w' ⟨rfl, rfl⟩)
      | ((with_reducible refine (new_any _).mono ?_); rintro e w' ⟨rfl, rfl⟩))
    have hw1 := HB.out.size
    obtain ⟨w2, hw2⟩ : ∃ w2, w1.alloc (.cells #[.slice none 0 0, .bool false] 41) = w2 := ⟨_, rfl⟩
    have HF0 : Hid (Feed w2 w.heap.size w1.heap.size none [] false) := Lib.hid (hw2 ▸ (feed_new w1).more hw1)
    have HB0 : Hid (Below w.heap.size w w2) := Lib.hid (hw2 ▸ HB.out.alloc hw1 _)
    have hs2 : w2.heap.size = w1.heap.size + 1 := by rw [← hw2]; simp
    rw [hw2]
    clear hw2
    go_loopg [8, 9] P.length (fun m s8 s9 wr => ∃ (k : Nat) (Aa : Option Addr) (ca : Nat) (la : List Int), k ≤ P.length ∧ m = P.length - k ∧ s8 = .slice Aa la.length ca ∧ s9 = .int .i64 (k : Int) ∧ (la.length : Int) ≤ 18000 ∧ Hid (Own wr w2.heap.size .u8 5 Aa ca la) ∧ Hid (la = frames (P.take k)) ∧ Hid (∀ x ∈ P.take k, x.length ≤ 4096) ∧ Hid (Below w2.heap.size w2 wr))
    case atStart => exact ⟨0, none, 0, [], by omega, rfl, rfl, rfl, by simp, Lib.hid (World.ownsRow_nil _ _ 5 1), Lib.hid (by simp [frames]), Lib.hid (by simp), Lib.hid (Below.refl _ _)⟩
    case round =>
      obtain ⟨k, Aa, ca, la, hk, rfl, rfl, rfl, hla, HO, HLA, HS, HBr⟩ := hrel
      have HBw : Hid (Below w.heap.size w wr) := Lib.hid (HB0.out.trans (HBr.out.mono HB0.out.size))
      have hwr := HBr.out.size
      have hww := HB0.out.size
      by_cases hlt : k < P.length
      · have hlt' : (k : Int) < P.length := by omega
        obtain ⟨b, off, x, a, c', rfl, _, hx, hc, hrx, hbx⟩ := (HR.out.below HBw.out (Nat.le_refl _)).at' hlt
        have hxl := tot_at hx
        have hxl' : (x.length : Int) ≤ 16384 := by omega
        have HRx := Lib.hid hrx; have HBx := Lib.hid hbx; have HXk := Lib.hid hx; clear hrx hbx hx hxl
        by_cases h4 : (4096 : Int) < x.length
        · go_wp2_with ((with_reducible refine (wrap_long a c' x _ h4).mono ?_); rintro e w' ⟨rfl, rfl⟩)
          go_ret
          exact ⟨rfl, HBw.out⟩
        · have h4' : decide ((4096 : Int) < x.length) = false := by simpa using h4
          have h4'' : (x.length : Int) ≤ 4096 := by omega
          go_wp2_with (first
            | ((with_reducible refine (wrap_ok a _ c' x rfl _ w.heap.size HRx.out (by omega) h4'').mono ?_); rintro e w3 ⟨lm, A3, c3, HL3, rfl, HO3, HB3⟩; have hlm : (lm.length : Int) ≤ 5000 := (by rw [HL3.out]; have := frm_len (x := x) (by omega); omega); have HR3 := Lib.hid (Rd.of_own HO3.out))
            | (at_builtin; refine wpList_app (K := .u8) (t := 23) (e := 5) Try.underlying23 byte_info rfl (by omega) rfl (.tmp 62) (.tmp 63) rfl w2.heap.size w3.heap.size Aa ca la lm A3 c3 rfl rfl (HO.out.below HB3.out (Nat.le_refl _)) HR3.out (by omega) (by have := HB3.out.size; omega) ?_; intro A4 c4 w4 l4 HL4 HO4 HS4))
          have HN := Lib.hid (frames_next HXk.out HLA.out HL3.out HL4.out)
          have HN2 := Lib.hid (small_next HXk.out HS.out h4'')
          have hl4 : (l4.length : Int) ≤ 18000 := by
            have := frames_room (k + 1) HN.out HN2.out
            have h2 := tot_le P (k + 1)
            have h3 : (P.take (k + 1)).length ≤ P.length := List.length_take_le' _ _
            omega
          go_roundg (P.length - (k + 1))
          case measure => omega
          case rel => exact ⟨k + 1, A4, c4, l4, by omega, rfl, rfl, by go_num, hl4, HO4, HN, HN2, Lib.hid (below_step (HBr.out.trans (HB3.out.mono hwr)) HS4.out (fun j hj => (HO.out.lt j hj).1) (by have := HB3.out.size; omega))⟩
      · have hlt' : decide ((k : Int) < P.length) = false := by simp; omega
        have hPall : P.take k = P := List.take_of_length_le (by omega)
        have HLA' : Hid (la = frames P) := Lib.hid (by rw [← hPall]; exact HLA.out)
        have HS' : Hid (∀ x ∈ P, x.length ≤ 4096 ∧ Byt x) := Lib.hid (fun x hx => ⟨HS.out x (by rw [hPall]; exact hx), HPB.out x hx⟩)
        clear hPall HLA HS
        obtain ⟨n, hn⟩ : ∃ n : Nat, min (max cut 0) (la.length : Int) = n := ⟨(min (max cut 0) (la.length : Int)).toNat, by omega⟩
        have hnl : n ≤ la.length := by omega
        obtain ⟨L1, z1, L2, hp1, hp2, hLL, hz1, hz2, hLs⟩ := back_cut HLA'.out HS'.out n
        have HP1 := Lib.hid hp1; have HP2 := Lib.hid hp2; have HLL := Lib.hid hLL; have HZ1 := Lib.hid hz1
        clear hp1 hp2 hLL hz1
        have HBl : Hid (Byt la) := Lib.hid (by rw [HLA'.out]; exact frames_byt HS'.out)
        have HTL : Hid ((la.take n).length = n) := Lib.hid (by simp; omega)
        have HDL := Lib.hid (List.length_drop (i := n) (l := la))
        have hlca : la.length ≤ ca := by
          rcases own_cases HO.out with ⟨_, rfl, rfl⟩ | ⟨_, _, h⟩
          · simp
          · exact h
        have HD0 : Hid (ca = n → la.drop n = []) := fun e => List.drop_eq_nil_of_le (by omega)
        have HF := Lib.hid (HF0.out.below HBr.out (Nat.le_refl _))
        have HRl := Lib.hid (Rd.of_own HO.out)
        have hdt : ((la.take n).length : Int) ≤ 20000 := by rw [HTL.out]; omega
        have hdd : ((la.drop n).length : Int) ≤ 20000 := by rw [HDL.out]; omega
        have hz0 : decide ((la.length : Int) < 0) = false := by simp
        have hcs : cut < 0 ∨ (∃ _ : decide (cut < 0) = false, ∃ _ : decide ((la.length : Int) < cut) = false, cut = n) ∨ (∃ _ : decide (cut < 0) = false, (la.length : Int) < cut) := by
          by_cases h1 : cut < 0
          · exact .inl h1
          · by_cases h2 : (la.length : Int) < cut
            · exact .inr (.inr ⟨by simpa using h1, h2⟩)
            · exact .inr (.inl ⟨by simpa using h1, by simpa using h2, by omega⟩)
        rcases hcs with hc1 | ⟨hc1, hc2, rfl⟩ | ⟨hc1, hc2⟩
        all_goals
          go_wp2_with (first
            | ((with_reducible refine (x_push' (by have := HTL.out; omega) HF.out HBw.out (HRl.out.take n) (by simp) hdt Byt.nil (HBl.out.take n) HP1.out false rfl).mono ?_); rintro e w5 ⟨A5, c5, r5, rfl, HF5, HR5, HB5, HT5, HX5⟩; have HO5 := Lib.hid (own_kept HO.out (HF.out.ne_own HO.out) (fun k _ => by simp) HT5.out); have HRl5 := Lib.hid (Rd.of_own HO5.out))
            | ((with_reducible refine (x_push' (by have := HDL.out; omega) HF5.out HB5.out (rd_at0 (by omega) HRl5.out) hz2 hdd HZ1.out (HBl.out.drop n) HP2.out false rfl).mono ?_); rintro e w6 ⟨A6, c6, r6, rfl, HF6, HR6, HB6, HT6, HX6⟩; have HRa := Lib.hid (rows_kept HR5.out (by omega) HT6.out HX6.out); have HRb := Lib.hid (HR6.out.more HT5.out.size); have hw6 := HT6.out.size; have hw5 := HT5.out.size; have HLt := Lib.hid HF6.out.lt)
            | ((with_reducible refine (x_push' (by have := HDL.out; omega) HF5.out HB5.out (rd_map HRl5.out n) hz2 hdd HZ1.out (HBl.out.drop n) HP2.out false rfl).mono ?_); rintro e w6 ⟨A6, c6, r6, rfl, HF6, HR6, HB6, HT6, HX6⟩; have HRa := Lib.hid (rows_kept HR5.out (by omega) HT6.out HX6.out); have HRb := Lib.hid (HR6.out.more HT5.out.size); have hw6 := HT6.out.size; have hw5 := HT5.out.size; have HLt := Lib.hid HF6.out.lt)
            | ((with_reducible refine (x_push' (by have := HDL.out; omega) HF5.out HB5.out (rd_empty (B := 0) (List.drop_eq_nil_of_le (by omega))) hz2 hdd HZ1.out (HBl.out.drop n) HP2.out false rfl).mono ?_); rintro e w6 ⟨A6, c6, r6, rfl, HF6, HR6, HB6, HT6, HX6⟩; have HRa := Lib.hid (rows_kept HR5.out (by omega) HT6.out HX6.out); have HRb := Lib.hid (HR6.out.more HT5.out.size); have hw6 := HT6.out.size; have hw5 := HT5.out.size; have HLt := Lib.hid HF6.out.lt)
            | (at_builtin; refine wpList_appG rfl (.tmp 96) (.tmp 97) rfl wr.heap.size r6 A5 c5 L1 L2 A6 c6 rfl rfl HRa.out HRb.out (by omega) (by omega) (fun k hk => (HLt.out.2.2 k hk).2) ?_; intro A7 c7 w7 L7 HL7 HR7 HS7; have HE7 := Lib.hid (HL7.out.trans HLL.out); have HB7 := Lib.hid (below_app HB6.out HRa.out (by omega) HS7.out (by omega)); have HF7 := Lib.hid (feed_app HF6.out HRa.out (by omega) HS7.out); have HQ7 : Hid (Parts w7 w7.heap.size A7 P) := Lib.hid (HE7.out ▸ HR7.out.parts (by rw [HE7.out]; exact HPB.out)))
            | ((with_reducible refine (same_yes w7 A7 A c7 c P _ _ (by rw [HE7.out]) rfl _ w.heap.size HQ7.out (HR.out.below HB7.out (Nat.le_refl _)) (by omega)).mono ?_); rintro e w8 ⟨rfl, q8, HW8⟩; have HF8 : Hid (Feed w8 w.heap.size w1.heap.size r6 [] false) := Lib.hid (HW8 ▸ HF7.out.drewN q8); have HB8 : Hid (Below w.heap.size w w8) := Lib.hid (HW8 ▸ ⟨HB7.out.os, HB7.out.tape, HB7.out.output, HB7.out.size, HB7.out.block⟩); clear HW8)
            | ((with_reducible refine (waits_any HF8.out).mono ?_); rintro e w' ⟨rfl, rfl⟩)
            | ((with_reducible refine (dead_any HF8.out).mono ?_); rintro e w' ⟨rfl, rfl⟩))
        all_goals
          go_ret
          exact ⟨rfl, HB8.out⟩


set_option maxRecDepth 100000 in
theorem lifted (os : Os) (started : os.Started) (H : Type) (enc : TypeId × Value → H) :
    ReturnsInHanded {} Try.checked os 5 .any (Rows.frameBackSpec.pre6 enc Try.prog Try.f5 Rows.frameBackRow.domain false) (Rows.frameBackSpec.post enc Try.prog Try.f5 false true false false) := by
  refine returnsInHanded_of_change_sized (C := Try.checked) own started (by kernel_rfl) Try.func5
    (ChangeSpec.witness6 (enc := enc) (C := Try.checked) false ⟨#[], #[.slice none 0 0, .int .i64 0], []⟩ 8 (by kernel_rfl) (by kernel_rfl) (by kernel_rfl) (by kernel_rfl)) ?_
  intro W base args ds gs before hval0 hW hcnd hsz0 _
  have hval : ∀ (j : Nat) t v, Try.f5.params[j]? = some t → args[j]? = some v → Value.okWide Try.prog W .any base t v := hval0
  have hW' := hW
  obtain ⟨p, q, hA0, hV, rfl, hfz, hnd⟩ := hW
  have hA : DataW.TrodAll enc Try.prog W 0 (fun _ => true) true Try.f5.params.toList args.toList ds p := hA0
  rw [Try.params5] at hA hval
  obtain ⟨v0, vs0, d0, ds0, p0, q0, hargs, rfl, rfl, h0, r0⟩ := trodAll_cons hA
  obtain ⟨v1, vs1, d1, ds1, p1, q1, rfl, rfl, rfl, h1, r1⟩ := trodAll_cons r0
  obtain ⟨rfl, rfl, rfl⟩ := trodAll_nil r1
  obtain rfl : args = #[v0, v1] := by cases args; simp_all
  obtain ⟨rfl, rfl⟩ := trodVars_none hV
  clear hA0 hval0
  have hsz : (DataW.weightsEach Try.prog [22, 3] [d0, d1]).all (· ≤ reachBytes) = true := hsz0
  clear hsz0
  have hlt0 : ∀ x ∈ p0, x.block < W.heap.size := fun x hx => hW'.lt x (by simp [hx])
  have hk0 := h0
  obtain ⟨A0, c0, l0, rfl, hr0, hl0, hx0⟩ := Opr.view2 (j := 0) (hval 0 22 v0 rfl rfl) h0 hsz rfl rfl
  obtain ⟨a1, rfl, rfl, rfl, w1⟩ := open_int Try.underlying3 (hval 1 3 v1 rfl rfl) h1
  simp only [List.append_nil] at hW'
  refine (walk W A0 c0 l0 hr0 hl0 hx0 a1 (Open.fits_of w1)).mono fun e W' ⟨he, hg⟩ => ?_
  subst he
  exact ⟨_, rfl, _, _, _, [], _, [], hW', (trodAll_cons_mk (shut_bool Try.underlying4 _) trodAll_mk0), (trodAll_cons_mk (Below.trod Open.laidOut (by kernel_rfl) (of_decide_eq_true (by kernel_rfl)) hk0 hg hlt0) (trodAll_cons_mk (shut_int Try.underlying3 w1) trodAll_mk0)), rfl, hg.frame _, fun h => by cases h⟩

theorem over : Rows.frameBackRow.holds Try.pinned (OpenSpec.ofChange Rows.frameBackSpec) :=
  OpenClaim.holds_of_wide 5 Try.f5 rfl rfl rfl rfl rfl rfl rfl ⟨rfl, rfl, rfl, rfl, rfl⟩ rfl rfl rfl rfl rfl (by kernel_rfl) Try.func5 (by kernel_rfl)
    (of_decide_eq_true (by kernel_rfl)) (by unfold Func.isWrapper; first | (rw [if_pos (by decide +kernel)]; kernel_rfl) | (rw [if_neg (by decide +kernel)]; exact ⟨rfl, rfl⟩))
    (fun os started H enc _ => lifted os started H enc)

/-- The given statement. -/
theorem proved : Rows.FrameBackSaid :=
  over
#print axioms proved
end Go.Proofs.Ytcefkjeoknaijaa.frameBack
