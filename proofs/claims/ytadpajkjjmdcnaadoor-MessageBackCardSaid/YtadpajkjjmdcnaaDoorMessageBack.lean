/-
  The law MessageBack: the load of a right message is decoded to that message and fits into a frame, and what any bytes are decoded to is encoded to those bytes, for all messages of at most 100 numbers and 1024 bytes of text and all loads of at most 2048 bytes; no condition beyond the types', and that the table of sizes stands as the program's text lays it.
-/
import Derived.Test.YtadpajkjjmdcnaaDoorSma
import Derived.Test.YtadpajkjjmdcnaaDoorMop
import Derived.Test.YtadpajkjjmdcnaaDoorMsw
import Derived.Test.YtadpajkjjmdcnaaDoorCards
import Derived.Test.YtadpajkjjmdcnaaDoorTie
import Derived.WalkKit
import Derived.ProofKit
import Derived.OpenShut
import Derived.Deep.DeepHandedRow
namespace Go.Proofs.YtadpajkjjmdcnaaDoor.messageBack
open Go.ChangeShapes Go.WideShapes Go.ChangeAt Go.RowKit Con Pm Mth
set_option linter.unusedVariables false

theorem own : ownKnob Tryd.prog.godebug = none := by kernel_rfl

theorem bool_dec (a b : Bool) : decide (a = true ∧ b = true) = (a && b) := by cases a <;> cases b <;> rfl
theorem enE_eq (m : Ms) : (enE m == 0) = rtM m := by
  cases h : rtM m with
  | true => rw [(en_yes h).2]; rfl
  | false => rw [(en_no h).2]; rfl
theorem frame_long {l lm : List Int} (h : lm = dg l.length ++ l) : l.length < lm.length := by
  rw [h, List.length_append]; have := dg_pos l.length; omega
set_option maxRecDepth 100000 in
set_option maxHeartbeats 4000000 in
theorem bigM (w : World) (hS : Sz w) (m : Ms) (A : Option Addr) (c : Nat) (hn : (m.l.length : Int) ≤ 9223372036854775807) (ht : (m.t.length : Int) ≤ 9223372036854775807) (Ab : Option Addr) (cb : Nat) (b : List Int) (hlb : (b.length : Int) ≤ 9223372036854775807)
    (h : ¬ ((m.l.length : Int) ≤ 100 ∧ (m.t.length : Int) ≤ 1024) ∨ (2048 : Int) < b.length) :
    Calls Tryd.prog 5 #[mv m A c, .slice Ab b.length cb] w fun e w' => e = .returned (.bool true) ∧ Below w.heap.size w w' := by
  have HB0 : Hid (Below w.heap.size w (w.alloc (oM m A c))) := Lib.hid (by go_grown)
  have HX0 : Hid (Bx (w.alloc (oM m A c)) w.heap.size m A c) := Lib.hid (heap_alloc_new w _)
  have HS0 := Lib.hid (hS.keep HB0.out hS.pos)
  have HFw := Lib.hid (fun V => few_any m A c V hn ht)
  generalize hF : (decide ((m.l.length : Int) ≤ 100) && decide ((m.t.length : Int) ≤ 1024)) = F at HFw
  clear hS hn ht
  go_enter Tryd.func5, Tryd.ntmps5
  go_wp2_with (fail)
  generalize w.alloc (oM m A c) = w0 at *
  (with_reducible refine (small_any w0 HS0.out).mono ?_); rintro e w1 ⟨rfl, hB1⟩
  have HX1 := Lib.hid (HX0.out.of hB1 HX0.out.lt)
  have HV1 : Hid (Below w.heap.size w w1) := Lib.hid (below_more HB0.out hB1)
  clear hB1
  obtain ⟨z0, z1, z2⟩ := HX1.out.at
  cases F with
  | false =>
    clear h hF
    go_wp2_with ((with_reducible refine (HFw.out _).mono ?_); rintro e w2 ⟨rfl, hB2⟩; have HB2 := Lib.hid hB2; clear hB2)
    go_ret
    exact ⟨rfl, below_more HV1.out HB2.out⟩
  | true =>
    have hb : (2048 : Int) < b.length := by
      rcases h with h | h
      · exact absurd (by simpa using hF) h
      · exact h
    have hb' : decide ((2048 : Int) < b.length) = true := by simpa using hb
    clear h hF
    go_wp2_with ((with_reducible refine (HFw.out _).mono ?_); rintro e w2 ⟨rfl, hB2⟩; have HB2 := Lib.hid hB2; clear hB2)
    go_ret
    exact ⟨rfl, below_more HV1.out HB2.out⟩
set_option maxRecDepth 100000 in
set_option maxHeartbeats 8000000 in
theorem inner (w : World) (hS : Sz w) (m : Ms) (A : Option Addr) (c : Nat) (hr : Rd .i64 w w.heap.size A m.l) (hf : FM m) (hn : (m.l.length : Int) ≤ 100) (ht : (m.t.length : Int) ≤ 1024) (Ab : Option Addr) (cb : Nat) (b : List Int) (hrb : Rd .u8 w w.heap.size Ab b) (hcb : b.length ≤ cb) (hlb : (b.length : Int) ≤ 2048) (hxb : Byt b) :
    Calls Tryd.prog 5 #[mv m A c, .slice Ab b.length cb] w fun e w' => e = .returned (.bool true) ∧ Below w.heap.size w w' := by
  have HB0 : Hid (Below w.heap.size w (w.alloc (oM m A c))) := Lib.hid (by go_grown)
  have HX0 : Hid (Bx (w.alloc (oM m A c)) w.heap.size m A c) := Lib.hid (heap_alloc_new w _)
  have HS0 := Lib.hid (hS.keep HB0.out hS.pos)
  have HFw : Hid (∀ V : World, Calls Tryd.prog 7 #[mv m A c] V fun e w' => e = .returned (.bool true) ∧ Below V.heap.size V w') := Lib.hid (fun V => by
    have := few_any m A c V (by omega) (by omega)
    rwa [decide_eq_true hn, decide_eq_true ht] at this)
  have HR := Lib.hid (fun V (hV : Below w.heap.size w V) => hr.below hV (Nat.le_refl _))
  have HRb := Lib.hid (fun V (hV : Below w.heap.size w V) => hrb.below hV (Nat.le_refl _))
  have HSz := Lib.hid (fun V (hV : Below w.heap.size w V) => hS.keep hV hS.pos)
  have HF := Lib.hid hf; have HCb := Lib.hid hcb; have HBy := Lib.hid hxb
  have hb' : decide ((2048 : Int) < b.length) = false := by simpa using hlb
  clear hS hr hf hrb hcb hxb
  go_enter Tryd.func5, Tryd.ntmps5
  go_wp2_with (fail)
  generalize w.alloc (oM m A c) = w0 at *
  (with_reducible refine (small_any w0 HS0.out).mono ?_); rintro e w1 ⟨rfl, hB1⟩
  have HX1 := Lib.hid (HX0.out.of hB1 HX0.out.lt)
  have HV1 : Hid (Below w.heap.size w w1) := Lib.hid (below_more HB0.out hB1)
  clear hB1
  obtain ⟨z0, z1, z2⟩ := HX1.out.at
  go_wp2_with (fail)
  (with_reducible refine (HFw.out _).mono ?_); rintro e w2 ⟨rfl, hB2⟩
  have HX2 := Lib.hid (HX1.out.of hB2 HX1.out.lt)
  have HV2 : Hid (Below w.heap.size w w2) := Lib.hid (below_more HV1.out hB2)
  clear hB2 z0 z1 z2
  obtain ⟨z0, z1, z2⟩ := HX2.out.at
  go_wp2_with (fail)
  (with_reducible refine (encode_any m A c w2 w.heap.size (HR.out _ HV2.out) HV2.out.size HF.out (by omega) (by omega) (HSz.out _ HV2.out)).mono ?_); rintro e w3 ⟨l1, A1, c1, HL1, rfl, HO1, HB3⟩
  have HX3 := Lib.hid (HX2.out.of HB3.out HX2.out.lt)
  have HV3 : Hid (Below w.heap.size w w3) := Lib.hid (below_more HV2.out HB3.out)
  clear z0 z1 z2
  obtain ⟨z0, z1, z2⟩ := HX3.out.at
  have hee := enE_eq m
  go_wp2_with (fail)
  (with_reducible refine (right_any m A c HF.out (by omega) (by omega) w3 (HSz.out _ HV3.out)).mono ?_); rintro e w4 ⟨rfl, hB4⟩
  have HX4 := Lib.hid (HX3.out.of hB4 HX3.out.lt)
  have HV4 : Hid (Below w.heap.size w w4) := Lib.hid (below_more HV3.out hB4)
  have HO4 := Lib.hid (HO1.out.below hB4 (Nat.le_refl _))
  clear hB4 z0 z1 z2 hee
  obtain ⟨z0, z1, z2⟩ := HX4.out.at
  cases hrt : rtM m with
  | false =>
    rw [(en_no hrt).2]
    clear hrt
    go_wp2_with (fail)
    (with_reducible refine (decode_any Ab cb b w4 w.heap.size (HRb.out _ HV4.out) HV4.out.size (by omega) HBy.out HCb.out (HSz.out _ HV4.out)).mono ?_); rintro e v1 ⟨Ad, cd, md, ed, HDd, rfl, HOd, HBd⟩
    have HU1 : Hid (Below w.heap.size w v1) := Lib.hid (below_more HV4.out HBd.out)
    rcases hd : deO b with _ | m2
    · obtain ⟨rfl, rfl⟩ : md = zM ∧ ed = 2 := ⟨HDd.out.1.trans (de_zero hd).1.symm, HDd.out.2.trans (de_zero hd).2.symm⟩
      have HU2 : Hid (Below w.heap.size w (v1.alloc (oM zM Ad cd))) := Lib.hid (HU1.out.alloc HU1.out.size _)
      have HXd : Hid (Bx (v1.alloc (oM zM Ad cd)) v1.heap.size zM Ad cd) := Lib.hid (heap_alloc_new v1 _)
      have HSm : Hid (Calls Tryd.prog 14 #[mv zM Ad cd, .agg #[.int .i64 0, .slice none 0 0, .string { data := #[] }]] (v1.alloc (oM zM Ad cd)) fun e w' => e = .returned (.bool true) ∧ Below (v1.alloc (oM zM Ad cd)).heap.size (v1.alloc (oM zM Ad cd)) w') := Lib.hid (same_any zM zM Ad cd none 0 _ 0 Rd.nil Rd.nil (Nat.zero_le _) fm_zero fm_zero (by simp [zM]) true (by simp))
      obtain ⟨y0, y1, y2⟩ := HXd.out.at
      clear hd
      go_wp2_with ((with_reducible refine HSm.out.mono ?_); rintro e v3 ⟨rfl, hb3⟩; have HB9 := Lib.hid hb3; clear hb3)
      go_ret
      exact ⟨rfl, below_more HU2.out HB9.out⟩
    · obtain ⟨hr2, hf2, hl2⟩ := de_yes HBy.out hd
      obtain ⟨_, _, hn2, ht2⟩ := rt_parts hr2
      have hz2 := szN_le m2.d
      obtain ⟨rfl, rfl⟩ : md = m2 ∧ ed = 0 := ⟨HDd.out.1.trans (de_some hd).1.symm, HDd.out.2.trans (de_some hd).2.symm⟩
      have HU2 : Hid (Below w.heap.size w (v1.alloc (oM md Ad cd))) := Lib.hid (HU1.out.alloc HU1.out.size _)
      have HXd : Hid (Bx (v1.alloc (oM md Ad cd)) v1.heap.size md Ad cd) := Lib.hid (heap_alloc_new v1 _)
      have HRd2 : Hid (Rd .i64 (v1.alloc (oM md Ad cd)) v1.heap.size Ad md.l) := Lib.hid ((own_rd HOd.out).alloc (Nat.le_refl _) _)
      have HEn := Lib.hid (encode_any md Ad cd (v1.alloc (oM md Ad cd)) v1.heap.size HRd2.out (by simp) hf2 (by omega) (by omega) (HSz.out _ HU2.out))
      have HE2 := Lib.hid (en_yes hr2); have HL2 := Lib.hid hl2
      obtain ⟨y0, y1, y2⟩ := HXd.out.at
      clear hd hr2 hf2 hl2 hn2 ht2 hz2
      go_wp2_with (fail)
      (with_reducible refine HEn.out.mono ?_); rintro e v3 ⟨l3, A3, c3, HL3, rfl, HO3, HB9⟩
      rw [HE2.out.2]
      obtain rfl : l3 = b := HL3.out.trans (HE2.out.1.trans HL2.out)
      have hcv1 := conv c3 (own_rd HO3.out)
      have hcv2 := conv cb (HRb.out _ (below_more HU2.out HB9.out))
      go_wp2
      go_ret
      exact ⟨rfl, below_more HU2.out HB9.out⟩
  | true =>
    rw [(en_yes hrt).2]
    have HLm := Lib.hid (HL1.out.trans (en_yes hrt).1)
    have hlen : l1.length ≤ 125 := by rw [HLm.out]; exact ld_len HF.out hrt
    have HBy1 : Hid (Byt l1) := Lib.hid (by rw [HLm.out]; exact ld_byt HF.out hrt)
    have HDo : Hid (deO l1 = some m) := Lib.hid (by rw [HLm.out]; exact de_ld HF.out hrt)
    clear hrt
    go_wp2_with (fail)
    (with_reducible refine (decode_any A1 c1 l1 w4 w4.heap.size (own_rd HO4.out) (Nat.le_refl _) (by omega) HBy1.out (own_cap HO4.out) (HSz.out _ HV4.out)).mono ?_); rintro e w5 ⟨A5, c5, m5, e5, HD5, rfl, HO5, HB5⟩
    obtain ⟨rfl, rfl⟩ : m5 = m ∧ e5 = 0 := ⟨HD5.out.1.trans (de_some HDo.out).1.symm, HD5.out.2.trans (de_some HDo.out).2.symm⟩
    have HB6 : Hid (Below w4.heap.size w4 (w5.alloc (oM m5 A5 c5))) := Lib.hid (HB5.out.alloc HB5.out.size _)
    have HX6 : Hid (Bx (w5.alloc (oM m5 A5 c5)) w.heap.size m5 A c) := Lib.hid (HX4.out.of HB6.out HX4.out.lt)
    have HY6 : Hid (Bx (w5.alloc (oM m5 A5 c5)) w5.heap.size m5 A5 c5) := Lib.hid (heap_alloc_new w5 _)
    have HV6 := Lib.hid (below_more HV4.out HB6.out)
    have HO6 := Lib.hid (HO4.out.below HB6.out (Nat.le_refl _))
    have HR6 : Hid (Rd .i64 (w5.alloc (oM m5 A5 c5)) w5.heap.size A5 m5.l) := Lib.hid ((own_rd HO5.out).alloc (Nat.le_refl _) _)
    have HW6 := Lib.hid (wrap_ok A1 c1 l1 (w5.alloc (oM m5 A5 c5)) _ (own_rd HO6.out) (Nat.le_refl _) (by omega))
    have HQ6 : Hid (w.heap.size ≤ w5.heap.size) := Lib.hid (Nat.le_trans HV4.out.size HB5.out.size)
    clear z0 z1 z2
    go_wp2_with (fail)
    generalize w5.alloc (oM m5 A5 c5) = w6 at *
    (with_reducible refine HW6.out.mono ?_); rintro e w7 ⟨l7, A7, c7, HL7, rfl, HO7, HB7⟩
    have HX7 := Lib.hid (HX6.out.of HB7.out HX6.out.lt)
    have HY7 := Lib.hid (HY6.out.of HB7.out HY6.out.lt)
    have HV7 := Lib.hid (below_more HV6.out HB7.out)
    have HR7 := Lib.hid (HR6.out.below HB7.out (Nat.le_of_lt HY6.out.lt))
    have HSa := Lib.hid (same_any m5 m5 A5 c5 A c w7 w5.heap.size HR7.out ((HR.out _ HV7.out).more HQ6.out) (Nat.le_of_lt HY7.out.lt) HF.out HF.out (by omega) true (by simp))
    have hfl := frame_long HL7.out
    have hfl' : decide ((l7.length : Int) ≤ l1.length) = false := by simp; omega
    have hfl2 : decide (l7.length ≤ l1.length) = false := by simp; omega
    obtain ⟨z0, z1, z2⟩ := HX7.out.at
    obtain ⟨y0, y1, y2⟩ := HY7.out.at
    clear hfl
    go_wp2_with ((with_reducible refine HSa.out.mono ?_); rintro e w8 ⟨rfl, hb8⟩; have HV8 := Lib.hid (below_more HV7.out hb8); clear hb8)
    clear z0 z1 z2 y0 y1 y2
    (with_reducible refine (decode_any Ab cb b w8 w.heap.size (HRb.out _ HV8.out) HV8.out.size (by omega) HBy.out HCb.out (HSz.out _ HV8.out)).mono ?_); rintro e v1 ⟨Ad, cd, md, ed, HDd, rfl, HOd, HBd⟩
    have HU1 : Hid (Below w.heap.size w v1) := Lib.hid (below_more HV8.out HBd.out)
    rcases hd : deO b with _ | m2
    · obtain ⟨rfl, rfl⟩ : md = zM ∧ ed = 2 := ⟨HDd.out.1.trans (de_zero hd).1.symm, HDd.out.2.trans (de_zero hd).2.symm⟩
      have HU2 : Hid (Below w.heap.size w (v1.alloc (oM zM Ad cd))) := Lib.hid (HU1.out.alloc HU1.out.size _)
      have HXd : Hid (Bx (v1.alloc (oM zM Ad cd)) v1.heap.size zM Ad cd) := Lib.hid (heap_alloc_new v1 _)
      have HSm : Hid (Calls Tryd.prog 14 #[mv zM Ad cd, .agg #[.int .i64 0, .slice none 0 0, .string { data := #[] }]] (v1.alloc (oM zM Ad cd)) fun e w' => e = .returned (.bool true) ∧ Below (v1.alloc (oM zM Ad cd)).heap.size (v1.alloc (oM zM Ad cd)) w') := Lib.hid (same_any zM zM Ad cd none 0 _ 0 Rd.nil Rd.nil (Nat.zero_le _) fm_zero fm_zero (by simp [zM]) true (by simp))
      obtain ⟨y0, y1, y2⟩ := HXd.out.at
      clear hd
      go_wp2_with ((with_reducible refine HSm.out.mono ?_); rintro e v3 ⟨rfl, hb3⟩; have HB9 := Lib.hid hb3; clear hb3)
      go_ret
      exact ⟨rfl, below_more HU2.out HB9.out⟩
    · obtain ⟨hr2, hf2, hl2⟩ := de_yes HBy.out hd
      obtain ⟨_, _, hn2, ht2⟩ := rt_parts hr2
      have hz2 := szN_le m2.d
      obtain ⟨rfl, rfl⟩ : md = m2 ∧ ed = 0 := ⟨HDd.out.1.trans (de_some hd).1.symm, HDd.out.2.trans (de_some hd).2.symm⟩
      have HU2 : Hid (Below w.heap.size w (v1.alloc (oM md Ad cd))) := Lib.hid (HU1.out.alloc HU1.out.size _)
      have HXd : Hid (Bx (v1.alloc (oM md Ad cd)) v1.heap.size md Ad cd) := Lib.hid (heap_alloc_new v1 _)
      have HRd2 : Hid (Rd .i64 (v1.alloc (oM md Ad cd)) v1.heap.size Ad md.l) := Lib.hid ((own_rd HOd.out).alloc (Nat.le_refl _) _)
      have HEn := Lib.hid (encode_any md Ad cd (v1.alloc (oM md Ad cd)) v1.heap.size HRd2.out (by simp) hf2 (by omega) (by omega) (HSz.out _ HU2.out))
      have HE2 := Lib.hid (en_yes hr2); have HL2 := Lib.hid hl2
      obtain ⟨y0, y1, y2⟩ := HXd.out.at
      clear hd hr2 hf2 hl2 hn2 ht2 hz2
      go_wp2_with (fail)
      (with_reducible refine HEn.out.mono ?_); rintro e v3 ⟨l3, A3, c3, HL3, rfl, HO3, HB9⟩
      rw [HE2.out.2]
      obtain rfl : l3 = b := HL3.out.trans (HE2.out.1.trans HL2.out)
      have hcv1 := conv c3 (own_rd HO3.out)
      have hcv2 := conv cb (HRb.out _ (below_more HU2.out HB9.out))
      go_wp2
      go_ret
      exact ⟨rfl, below_more HU2.out HB9.out⟩
theorem walk (w : World) (hS : Sz w) (m : Ms) (A : Option Addr) (c : Nat) (hr : Rd .i64 w w.heap.size A m.l) (hf : FM m) (hn : (m.l.length : Int) ≤ 9223372036854775807) (ht : (m.t.length : Int) ≤ 9223372036854775807) (Ab : Option Addr) (cb : Nat) (b : List Int) (hrb : Rd .u8 w w.heap.size Ab b) (hcb : b.length ≤ cb) (hlb : (b.length : Int) ≤ 9223372036854775807) (hxb : Byt b) :
    Calls Tryd.prog 5 #[mv m A c, .slice Ab b.length cb] w fun e w' => e = .returned (.bool true) ∧ Below w.heap.size w w' := by
  by_cases h : ¬ ((m.l.length : Int) ≤ 100 ∧ (m.t.length : Int) ≤ 1024) ∨ (2048 : Int) < b.length
  · exact bigM w hS m A c hn ht Ab cb b hlb h
  · exact inner w hS m A c hr hf (by omega) (by omega) Ab cb b hrb hcb (by omega) hxb


set_option maxRecDepth 100000 in
theorem contract (H : Type) (enc : TypeId × Value → H) (W : World) (base : Nat) (args : Array Value) (ds gs : List (DataW H)) (before : List MemPlace)
    (hval0 : ∀ (j : Nat) t v, Tryd.f5.params[j]? = some t → args[j]? = some v → Value.okWide Tryd.prog W .any base t v)
    (hW : DataW.Whole enc Tryd.prog Tryd.f5.params.toList Rows.messageBackSpec.vars false W args.toList ds gs before) (hL : laidMetH Tryd.prog Rows.messageBackRow.laid W) :
    Calls Tryd.prog 5 args W fun e W' => ∃ v, e = .returned v ∧ Rows.messageBackSpec.post enc Tryd.prog Tryd.f5 false true false false W args v W' := by
  have hval : ∀ (j : Nat) t v, Tryd.f5.params[j]? = some t → args[j]? = some v → Value.okWide Tryd.prog W .any base t v := hval0
  have hW' := hW
  obtain ⟨p, q, hA0, hV, rfl, hfz, hnd⟩ := hW
  have hA : DataW.TrodAll enc Tryd.prog W 0 (fun _ => true) true Tryd.f5.params.toList args.toList ds p := hA0
  rw [Tryd.params5] at hA hval
  obtain ⟨v0, vs0, d0, ds0, p0, q0, hargs, rfl, rfl, h0, r0⟩ := trodAll_cons hA
  obtain ⟨v1, vs1, d1, ds1, p1, q1, rfl, rfl, rfl, h1, r1⟩ := trodAll_cons r0
  obtain ⟨rfl, rfl, rfl⟩ := trodAll_nil r1
  obtain rfl : args = #[v0, v1] := by cases args; simp_all
  obtain ⟨rfl, rfl⟩ := trodVars_none hV
  clear hA0 hval0
  have hlt0 : ∀ x ∈ p0, x.block < W.heap.size := fun x hx => hW'.lt x (by simp [hx])
  have hk0 := h0
  obtain ⟨m0, A0, c0, rfl, hr0, hf0, hn0, ht0⟩ := Mop.viewM (hval 0 24 v0 rfl rfl) h0 hlt0
  have hlt1 : ∀ x ∈ p1, x.block < W.heap.size := fun x hx => hW'.lt x (by simp [hx])
  have hk1 := h1
  obtain ⟨A1, c1, l1, rfl, hr1, hc1, hl1, hx1⟩ := Pop.viewB (hval 1 27 v1 rfl rfl) h1 hlt1
  simp only [List.append_nil] at hW'
  refine (walk W (Mop.table hL) m0 A0 c0 hr0 hf0 hn0 ht0 A1 c1 l1 hr1 hc1 (by omega) hx1).mono fun e W' ⟨he, hg⟩ => ?_
  subst he
  exact ⟨_, rfl, _, _, _, [], _, [], hW', (trodAll_cons_mk (shut_bool Tryd.underlying4 _) trodAll_mk0), (trodAll_cons_mk (Below.trod Pop.laidOut (by kernel_rfl) (of_decide_eq_true (by kernel_rfl)) hk0 hg hlt0) (trodAll_cons_mk (Below.trod Pop.laidOut (by kernel_rfl) (of_decide_eq_true (by kernel_rfl)) hk1 hg hlt1) trodAll_mk0)), rfl, hg.frame _, fun h => by cases h⟩

theorem laid_met (os : Os) : laidMet Tryd.prog Rows.messageBackRow.laid ((Mop.laidWorld os).forCall (fun _ _ => 0) ⟨#[], #[Value.agg #[.int .i64 0, .slice none 0 0, .string ⟨#[]⟩], Value.slice none 0 0], []⟩).memory :=
  laidMet_of_run' 8 (by kernel_rfl) (by kernel_rfl)
theorem reads (os : Os) {H : Type} (enc : TypeId × Value → H) : ∃ places, DataW.whole enc Tryd.prog ((Mop.laidWorld os).forCall (fun _ _ => 0) ⟨#[], #[Value.agg #[.int .i64 0, .slice none 0 0, .string ⟨#[]⟩], Value.slice none 0 0], []⟩).memory Tryd.f5.params.toList Rows.messageBackSpec.vars false #[Value.agg #[.int .i64 0, .slice none 0 0, .string ⟨#[]⟩], Value.slice none 0 0].toList 8 = some ([.agg [.lit (.int .i64 0), .nil, .lit (.string [])], .nil], [], places) :=
  ⟨[], by kernel_rfl⟩

set_option maxRecDepth 100000 in
theorem lifted (os : Os) (started : os.Started) (H : Type) (enc : TypeId × Value → H) (F : Stop.Interp) :
    ReturnsInHanded {} Tryd.checked os 5 .any ((OpenSpec.ofChange Rows.messageBackSpec).preRow enc Tryd.prog Tryd.f5 Rows.messageBackRow.domain false Rows.messageBackRow.laid) (((OpenSpec.ofChange Rows.messageBackSpec).at F).post enc Tryd.prog Tryd.f5 false true false false) := by
  obtain ⟨places, hx⟩ := reads os enc
  refine returnsInHanded_of_row (C := Tryd.checked) (s := OpenSpec.ofChange Rows.messageBackSpec) own started (by kernel_rfl) Tryd.func5
    (witness_row_at (enc := enc) (C := Tryd.checked) false (Mop.laidWorld os) #[Value.agg #[.int .i64 0, .slice none 0 0, .string ⟨#[]⟩], Value.slice none 0 0] rfl (by kernel_rfl) (by kernel_rfl) (by kernel_rfl)
      (OpenSpec.preRow_of_cond 8 hx (by kernel_rfl) (fun k hk => by cases hk) (by kernel_rfl) (laid_met os))) ?_
  intro W base args ds gs before hval hW _ _ _ hL _ _
  exact contract H enc W base args ds gs before hval hW hL

theorem said : Rows.MessageBackSaid :=
  OpenClaim.holds_of_cond 5 Tryd.f5 rfl rfl rfl rfl rfl rfl rfl ⟨rfl, rfl, rfl, rfl, rfl⟩ rfl rfl rfl rfl rfl (by kernel_rfl) Tryd.func5 (by kernel_rfl)
    (of_decide_eq_true (by kernel_rfl)) (by unfold Func.isWrapper; first | (rw [if_pos (by decide +kernel)]; kernel_rfl) | (rw [if_neg (by decide +kernel)]; exact ⟨rfl, rfl⟩))
    (fun os started H enc _ F => by rw [OpenClaim.pre_eq_preRow]; exact lifted os started H enc F)
/-- No parameter wants a stand-in; the program's own looks are off: what the card asks. -/
theorem plain (f : FuncId) (fn : Func) (hf : Tryd.pinned.checked.prog.funcNamed "barrow/barrowlaw12.MessageBack" = some f) (hfn : Tryd.pinned.checked.prog.funcs[f]? = some fn) :
    false = Tryd.pinned.checked.prog.looks [] ∧ ∀ (j : Nat) t, fn.params[j]? = some t → Tryd.pinned.checked.prog.wantsStandIn t = false := by
  obtain rfl : f = 5 := Option.some.inj ((show Tryd.prog.funcNamed "barrow/barrowlaw12.MessageBack" = some 5 by kernel_rfl).symm.trans hf) |>.symm
  obtain rfl : fn = Tryd.f5 := (Option.some.inj (Tryd.func5.symm.trans hfn)).symm
  refine ⟨by kernel_rfl, fun j t ht => ?_⟩
  rw [Tryd.params5] at ht
  have hm : t ∈ [24, 27] := by simpa using Array.mem_of_getElem? ht
  have hall : ([24, 27].all fun u => !Tryd.prog.wantsStandIn u) = true := by kernel_rfl
  exact (show Tryd.prog.wantsStandIn t = false by simpa using List.all_eq_true.1 hall t hm)
/-- The given statement. -/
theorem proved : Rows.MessageBackCardSaid :=
  Claim7.holds_tied_plain_at .later [] _ _ _ _ said (fun _ h => by cases h) (by kernel_rfl) (fun _ h => by cases h) messageBack_row_tie rfl ⟨rfl, rfl⟩ (by kernel_rfl) rfl plain (by kernel_rfl)
#print axioms proved
end Go.Proofs.YtadpajkjjmdcnaaDoor.messageBack
