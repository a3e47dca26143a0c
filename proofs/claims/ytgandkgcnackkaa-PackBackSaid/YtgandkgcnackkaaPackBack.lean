/-
  For every bytes ahead and behind, every number, text and row the law PackBack answers true: what is written is read; no condition beyond the types'.
-/
import Derived.Test.YtgandkgcnackkaaCom
import Derived.Test.YtgandkgcnackkaaBack
import Derived.Test.YtgandkgcnackkaaOpen
import Derived.Test.YtgandkgcnackkaaOpw
import Derived.WalkKit
import Derived.ProofKit
import Derived.OpenShut
namespace Go.Proofs.Ytgandkgcnackkaa.packBack
open Go.ChangeShapes Go.WideShapes Go.ChangeAt Go.RowKit
set_option linter.unusedVariables false

theorem own : ownKnob Try.prog.godebug = none := by kernel_rfl

open Con Mth Mem

set_option maxRecDepth 100000 in
theorem big (w : World) (A : Option Addr) (c : Nat) (f : List Int) (n : Int) (s : ByteArray) (A' : Option Addr) (c' : Nat) (l : List Int) (A'' : Option Addr) (c'' : Nat) (k : List Int)
    (hf : (f.length : Int) ≤ 140737488351232) (hs : (s.size : Int) ≤ 140737488351232) (hl : (l.length : Int) ≤ 140737488351232) (hk : (k.length : Int) ≤ 140737488351232)
    (h : (2048 : Int) < f.length + k.length + s.size ∨ (300 : Int) < l.length) :
    Calls Try.prog 5 #[.slice A f.length c, .int .i64 n, .string s, .slice A' l.length c', .slice A'' k.length c''] w fun e w' => e = .returned (.bool true) ∧ Below w.heap.size w w' := by
  by_cases h1 : (2048 : Int) < f.length + k.length + s.size
  · clear h
    go_enter Try.func5, Try.ntmps5
    go_wp2_with ((with_reducible refine (small_any _).mono ?_); rintro e w1 ⟨rfl, hb⟩; have HB := Lib.hid hb; clear hb)
    go_ret
    exact ⟨rfl, HB.out⟩
  · have h1' : decide ((2048 : Int) < f.length + k.length + s.size) = false := by simpa using h1
    have h2 : (300 : Int) < l.length := by omega
    clear h
    go_enter Try.func5, Try.ntmps5
    go_wp2_with ((with_reducible refine (small_any _).mono ?_); rintro e w1 ⟨rfl, hb⟩; have HB := Lib.hid hb; clear hb)
    go_ret
    exact ⟨rfl, HB.out⟩

theorem own_cap {w : World} {base : Nat} {K : IntKind} {e : TypeId} {A : Option Addr} {c : Nat} {l : List Int} (h : Own w base K e A c l) : l.length ≤ c := by
  rcases h.2 with ⟨_, h0⟩ | ⟨g, cap, cur, hv, _, _, hn, _⟩
  · omega
  · injection hv with _ _ h3
    omega
theorem len_eq {a b : List Int} {k : Int} (h : a = b) (hb : (b.length : Int) ≤ k) : (a.length : Int) ≤ k := by rw [h]; exact hb

set_option maxRecDepth 100000 in
set_option maxHeartbeats 2000000 in
theorem inner (w : World) (A : Option Addr) (c : Nat) (f : List Int) (n : Int) (s : ByteArray) (A' : Option Addr) (c' : Nat) (l : List Int) (A'' : Option Addr) (c'' : Nat) (k : List Int)
    (hr : Rd .u8 w w.heap.size A f) (hfb : Byt f) (hn0 : -9223372036854775808 ≤ n) (hn1 : n ≤ 9223372036854775807) (hr' : Rd .i64 w w.heap.size A' l) (hx : Nums l) (hr'' : Rd .u8 w w.heap.size A'' k) (hkb : Byt k)
    (h1 : (f.length : Int) + k.length + s.size ≤ 2048) (h2 : (l.length : Int) ≤ 300) :
    Calls Try.prog 5 #[.slice A f.length c, .int .i64 n, .string s, .slice A' l.length c', .slice A'' k.length c''] w fun e w' => e = .returned (.bool true) ∧ Below w.heap.size w w' := by
  have h1' : decide ((2048 : Int) < f.length + k.length + s.size) = false := by simp; omega
  have h2' : decide ((300 : Int) < l.length) = false := by simp; omega
  have HR := Lib.hid hr; have HR' := Lib.hid hr'; have HR'' := Lib.hid hr''; have HX := Lib.hid hx; have HFB := Lib.hid hfb; have HKB := Lib.hid hkb
  clear hr hr' hr'' hx hfb hkb
  obtain ⟨hs0, hs1⟩ := sg_in hn0 hn1
  have d1 : ((dg n.toNat).length : Int) ≤ 10 := by have := dg_len10 (n := n.toNat) (by omega); omega
  have d2 : ((dg (sg n).toNat).length : Int) ≤ 10 := by have := dg_len10 (n := (sg n).toNat) (by omega); omega
  have d3 : ((dg s.size).length : Int) ≤ 10 := by have := dg_len10 (n := s.size) (by omega); omega
  have d4 : ((dg l.length).length : Int) ≤ 10 := by have := dg_len10 (n := l.length) (by omega); omega
  have d5 : ((wl l).length : Int) ≤ 3000 := by have := wl_len (l := l) HX.out; omega
  have d6 : ((sb s).length : Int) ≤ 2048 := by rw [sb_len]; omega
  go_enter Try.func5, Try.ntmps5
  go_wp2_with (first
    | ((with_reducible refine (small_any _).mono ?_); rintro e w1 ⟨rfl, hb1⟩; have HR1 := Lib.hid (HR.out.below hb1 (Nat.le_refl _)); have hz1 := hb1.size; have HB1 := Lib.hid hb1; clear hb1)
    | ((with_reducible refine (uint_any A c f n _ w.heap.size HR1.out hz1 (by omega) hn0 hn1).mono ?_); rintro e w2 ⟨l2, A2, c2, HL2, rfl, HO2, HB2⟩; have HD2 := Lib.hid (Rd.of_own HO2.out); have hl2 : (l2.length : Int) ≤ 2058 := (by rw [HL2.out, List.length_append]; omega))
    | ((with_reducible refine (int_any A2 c2 l2 n _ _ HD2.out (Nat.le_refl _) (by omega) hn0 hn1).mono ?_); rintro e w3 ⟨l3, A3, c3, HL3, rfl, HO3, HB3⟩; have HD3 := Lib.hid (Rd.of_own HO3.out); have hl3 : (l3.length : Int) ≤ 2068 := (by rw [HL3.out, List.length_append]; omega))
    | ((with_reducible refine (text_any A3 c3 l3 s _ _ HD3.out (Nat.le_refl _) (by omega) (by omega)).mono ?_); rintro e w4 ⟨l4, A4, c4, HL4, rfl, HO4, HB4⟩; have HD4 := Lib.hid (Rd.of_own HO4.out); have hl4 : (l4.length : Int) ≤ 4200 := (by rw [HL4.out, List.length_append, List.length_append]; omega); have HB04 := Lib.hid (neg_last (neg_last HB1.out HB2.out HB3.out) HB4.out (Below.refl _ _)); have HR4' := Lib.hid (HR'.out.below HB04.out (Nat.le_refl _)); have hz4 := HB04.out.size)
    | ((with_reducible refine (ints_any A4 c4 l4 A' c' l _ _ _ HD4.out (Nat.le_refl _) (by omega) HR4'.out hz4 HX.out h2).mono ?_); rintro e w5 ⟨l5, A5, c5, HL5, rfl, HO5, HB5⟩; have hl5 : (l5.length : Int) ≤ 8000 := (by rw [HL5.out, List.length_append, List.length_append]; omega); have HB05 := Lib.hid (HB04.out.trans (HB5.out.mono hz4)); have HR5 := Lib.hid (HR''.out.below HB05.out (Nat.le_refl _)); have hz5 := HB5.out.size)
    | (at_builtin; refine wpList_app (K := .u8) (t := 22) (e := 5) Try.underlying22 byte_info rfl (by omega) rfl (.tmp 49) (.tmp 50) rfl w4.heap.size w.heap.size A5 c5 l5 k A'' c'' rfl rfl HO5.out HR5.out (by omega) hz5 ?_; intro A6 c6 w6 lm HL6 HO6 HS6))
  have HLM : Hid (lm = f ++ dg n.toNat ++ dg (sg n).toNat ++ dg s.size ++ sb s ++ dg l.length ++ wl l ++ k) := Lib.hid (by rw [HL6.out, HL5.out, HL4.out, HL3.out, HL2.out])
  obtain ⟨p1, p2, p3, p4, q1, q2, q3, q4, q5, b1, b2, b3⟩ := back_all f k l lm n s hn0 hn1 (by omega) h2 HX.out HLM.out
  have hlm : (lm.length : Int) ≤ 11000 := by rw [HL6.out, List.length_append]; omega
  have HBy : Hid (Byt lm) := Lib.hid (by rw [HLM.out]; exact ((((((HFB.out.app (dg_byt _)).app (dg_byt _)).app (dg_byt _)).app (sb_byt _)).app (dg_byt _)).app (wl_byt _)).app HKB.out)
  have HD6 := Lib.hid (Rd.of_own HO6.out)
  have hcap := own_cap HO6.out
  have HB06 := Lib.hid (below_step HB05.out HS6.out (fun j hj => Nat.le_trans hz4 (HO5.out.lt j hj).1) HB05.out.size)
  have hz6 := HB06.out.size
  have hend : (p4 == (lm.length : Int) - k.length) = true := by simp; omega
  have Q2 := Lib.hid q2; have Q3 := Lib.hid q3; have Q4 := Lib.hid q4
  clear q2 q3 q4 q5 d1 d2 d3 d4 d5 d6 hl2 hl3 hl4 hl5
  by_cases hneg : n < 0
  · rw [show ((n.toNat : Nat) : Int) = 0 by omega] at q1
    have Q1 := Lib.hid q1; clear q1
    go_wp2_with (first
      | ((with_reducible refine (ru_yes A6 c6 lm _ _ _ HD6.out (by omega) HBy.out (by omega) Q1.out).mono ?_); rintro e w' ⟨rfl, rfl⟩)
      | ((with_reducible refine (ri_yes A6 c6 lm p1 _ _ HD6.out (by omega) HBy.out (by omega) Q2.out).mono ?_); rintro e w' ⟨rfl, rfl⟩)
      | ((with_reducible refine (text_yes A6 c6 lm p2 _ _ HD6.out (by omega) hcap HBy.out (by omega) _ Q3.out).mono ?_); rintro e w' ⟨rfl, rfl⟩)
      | ((with_reducible refine (ints_yes A6 c6 lm p3 _ _ HD6.out (Nat.le_refl _) (by omega) HBy.out (by omega) _ Q4.out).mono ?_); rintro e w7 ⟨l7, A7, c7, HL7, rfl, HO7, HB7⟩; have HD7 := Lib.hid (Rd.of_own HO7.out); have HD7' := Lib.hid ((HR'.out.below HB06.out (Nat.le_refl _)).below HB7.out hz6); have hl7 := len_eq HL7.out h2)
      | ((with_reducible refine (same_any A7 A' c7 c' l7 l _ _ _ HD7.out HD7'.out HL7.out.symm (by omega)).mono ?_); rintro e w8 ⟨rfl, q, hq⟩; have HQ := Lib.hid hq; clear hq))
    go_ret
    refine ⟨rfl, ?_⟩
    rw [HQ.out]
    exact below_drewN (HB06.out.trans (HB7.out.mono hz6)) _
  · have hneg' : decide (n < 0) = false := by simpa using hneg
    rw [show ((n.toNat : Nat) : Int) = n by omega] at q1
    have Q1 := Lib.hid q1; clear q1
    go_wp2_with (first
      | ((with_reducible refine (ru_yes A6 c6 lm _ _ _ HD6.out (by omega) HBy.out (by omega) Q1.out).mono ?_); rintro e w' ⟨rfl, rfl⟩)
      | ((with_reducible refine (ri_yes A6 c6 lm p1 _ _ HD6.out (by omega) HBy.out (by omega) Q2.out).mono ?_); rintro e w' ⟨rfl, rfl⟩)
      | ((with_reducible refine (text_yes A6 c6 lm p2 _ _ HD6.out (by omega) hcap HBy.out (by omega) _ Q3.out).mono ?_); rintro e w' ⟨rfl, rfl⟩)
      | ((with_reducible refine (ints_yes A6 c6 lm p3 _ _ HD6.out (Nat.le_refl _) (by omega) HBy.out (by omega) _ Q4.out).mono ?_); rintro e w7 ⟨l7, A7, c7, HL7, rfl, HO7, HB7⟩; have HD7 := Lib.hid (Rd.of_own HO7.out); have HD7' := Lib.hid ((HR'.out.below HB06.out (Nat.le_refl _)).below HB7.out hz6); have hl7 := len_eq HL7.out h2)
      | ((with_reducible refine (same_any A7 A' c7 c' l7 l _ _ _ HD7.out HD7'.out HL7.out.symm (by omega)).mono ?_); rintro e w8 ⟨rfl, q, hq⟩; have HQ := Lib.hid hq; clear hq))
    go_ret
    refine ⟨rfl, ?_⟩
    rw [HQ.out]
    exact below_drewN (HB06.out.trans (HB7.out.mono hz6)) _

theorem walk (w : World) (A : Option Addr) (c : Nat) (f : List Int) (hr : Rd .u8 w w.heap.size A f) (hfc : f.length ≤ c) (hf : (f.length : Int) ≤ 140737488351232) (hfb : Byt f)
    (n : Int) (hn : -9223372036854775808 ≤ n ∧ n ≤ 9223372036854775807) (s : ByteArray) (hs : (s.size : Int) ≤ 140737488351232)
    (A' : Option Addr) (c' : Nat) (l : List Int) (hr' : Rd .i64 w w.heap.size A' l) (hlc : l.length ≤ c') (hl : (l.length : Int) ≤ 140737488351232) (hx : ∀ x ∈ l, -9223372036854775808 ≤ x ∧ x ≤ 9223372036854775807)
    (A'' : Option Addr) (c'' : Nat) (k : List Int) (hr'' : Rd .u8 w w.heap.size A'' k) (hkc : k.length ≤ c'') (hk : (k.length : Int) ≤ 140737488351232) (hkb : Byt k) :
    Calls Try.prog 5 #[.slice A f.length c, .int .i64 n, .string s, .slice A' l.length c', .slice A'' k.length c''] w fun e w' => e = .returned (.bool true) ∧ Below w.heap.size w w' := by
  by_cases h : (2048 : Int) < f.length + k.length + s.size ∨ (300 : Int) < l.length
  · exact big w A c f n s A' c' l A'' c'' k hf hs hl hk h
  · exact inner w A c f n s A' c' l A'' c'' k hr hfb hn.1 hn.2 hr' hx hr'' hkb (by omega) (by omega)


set_option maxRecDepth 100000 in
theorem lifted (os : Os) (started : os.Started) (H : Type) (enc : TypeId × Value → H) :
    ReturnsInHanded {} Try.checked os 5 .any (Rows.packBackSpec.pre6 enc Try.prog Try.f5 Rows.packBackRow.domain false) (Rows.packBackSpec.post enc Try.prog Try.f5 false true false false) := by
  refine returnsInHanded_of_change_sized (C := Try.checked) own started (by kernel_rfl) Try.func5
    (ChangeSpec.witness6 (enc := enc) (C := Try.checked) false ⟨#[], #[.slice none 0 0, .int .i64 0, .string ⟨#[]⟩, .slice none 0 0, .slice none 0 0], []⟩ 8 (by kernel_rfl) (by kernel_rfl) (by kernel_rfl) (by kernel_rfl)) ?_
  intro W base args ds gs before hval0 hW hcnd hsz0 _
  have hval : ∀ (j : Nat) t v, Try.f5.params[j]? = some t → args[j]? = some v → Value.okWide Try.prog W .any base t v := hval0
  have hW' := hW
  obtain ⟨p, q, hA0, hV, rfl, hfz, hnd⟩ := hW
  have hA : DataW.TrodAll enc Try.prog W 0 (fun _ => true) true Try.f5.params.toList args.toList ds p := hA0
  rw [Try.params5] at hA hval
  obtain ⟨v0, vs0, d0, ds0, p0, q0, hargs, rfl, rfl, h0, r0⟩ := trodAll_cons hA
  obtain ⟨v1, vs1, d1, ds1, p1, q1, rfl, rfl, rfl, h1, r1⟩ := trodAll_cons r0
  obtain ⟨v2, vs2, d2, ds2, p2, q2, rfl, rfl, rfl, h2, r2⟩ := trodAll_cons r1
  obtain ⟨v3, vs3, d3, ds3, p3, q3, rfl, rfl, rfl, h3, r3⟩ := trodAll_cons r2
  obtain ⟨v4, vs4, d4, ds4, p4, q4, rfl, rfl, rfl, h4, r4⟩ := trodAll_cons r3
  obtain ⟨rfl, rfl, rfl⟩ := trodAll_nil r4
  obtain rfl : args = #[v0, v1, v2, v3, v4] := by cases args; simp_all
  obtain ⟨rfl, rfl⟩ := trodVars_none hV
  clear hA0 hval0
  have hsz : (DataW.weightsEach Try.prog [22, 3, 9, 23, 22] [d0, d1, d2, d3, d4]).all (· ≤ reachBytes) = true := hsz0
  clear hsz0
  have z0 := fun A n c => Opw.lenB (A := A) (n := n) (c := c) (j := 0) (hval 0 22 v0 rfl rfl) h0 hsz rfl rfl
  have hlt0 : ∀ x ∈ p0, x.block < W.heap.size := fun x hx => hW'.lt x (by simp [hx])
  have hk0 := h0
  obtain ⟨A0, c0, l0, rfl, hr0, hc0, hl0, hx0⟩ := Open.viewB (hval 0 22 v0 rfl rfl) h0 hlt0
  obtain ⟨a1, rfl, rfl, rfl, w1⟩ := open_int Try.underlying3 (hval 1 3 v1 rfl rfl) h1
  obtain ⟨a2, rfl, rfl, rfl, w2⟩ := Go.ChangeMaps.open_string Try.underlying9 (hval 2 9 v2 rfl rfl) h2
  have z2 := Opw.lenT (j := 2) hsz rfl rfl
  have z3 := fun A n c => Opw.lenI (A := A) (n := n) (c := c) (j := 3) (hval 3 23 v3 rfl rfl) h3 hsz rfl rfl
  have hlt3 : ∀ x ∈ p3, x.block < W.heap.size := fun x hx => hW'.lt x (by simp [hx])
  have hk3 := h3
  obtain ⟨A3, c3, l3, rfl, hr3, hc3, hl3, hx3⟩ := Open.viewI (hval 3 23 v3 rfl rfl) h3 hlt3
  have z4 := fun A n c => Opw.lenB (A := A) (n := n) (c := c) (j := 4) (hval 4 22 v4 rfl rfl) h4 hsz rfl rfl
  have hlt4 : ∀ x ∈ p4, x.block < W.heap.size := fun x hx => hW'.lt x (by simp [hx])
  have hk4 := h4
  obtain ⟨A4, c4, l4, rfl, hr4, hc4, hl4, hx4⟩ := Open.viewB (hval 4 22 v4 rfl rfl) h4 hlt4
  simp only [List.append_nil] at hW'
  refine (walk W A0 c0 l0 hr0 hc0 (z0 _ _ _ rfl) hx0 a1 (Open.fits_of w1) a2 z2 A3 c3 l3 hr3 hc3 (z3 _ _ _ rfl) hx3 A4 c4 l4 hr4 hc4 (z4 _ _ _ rfl) hx4).mono fun e W' ⟨he, hg⟩ => ?_
  subst he
  exact ⟨_, rfl, _, _, _, [], _, [], hW', (trodAll_cons_mk (shut_bool Try.underlying4 _) trodAll_mk0), (trodAll_cons_mk (Below.trod Open.laidOut (by kernel_rfl) (of_decide_eq_true (by kernel_rfl)) hk0 hg hlt0) (trodAll_cons_mk (shut_int Try.underlying3 w1) (trodAll_cons_mk (Go.ChangeMaps.shut_string Try.underlying9 w2) (trodAll_cons_mk (Below.trod Open.laidOut (by kernel_rfl) (of_decide_eq_true (by kernel_rfl)) hk3 hg hlt3) (trodAll_cons_mk (Below.trod Open.laidOut (by kernel_rfl) (of_decide_eq_true (by kernel_rfl)) hk4 hg hlt4) trodAll_mk0))))), rfl, hg.frame _, fun h => by cases h⟩

theorem over : Rows.packBackRow.holds Try.pinned (OpenSpec.ofChange Rows.packBackSpec) :=
  OpenClaim.holds_of_wide 5 Try.f5 rfl rfl rfl rfl rfl rfl rfl ⟨rfl, rfl, rfl, rfl, rfl⟩ rfl rfl rfl rfl rfl (by kernel_rfl) Try.func5 (by kernel_rfl)
    (of_decide_eq_true (by kernel_rfl)) (by unfold Func.isWrapper; first | (rw [if_pos (by decide +kernel)]; kernel_rfl) | (rw [if_neg (by decide +kernel)]; exact ⟨rfl, rfl⟩))
    (fun os started H enc _ => lifted os started H enc)

/-- The given statement. -/
theorem proved : Rows.PackBackSaid :=
  over
#print axioms proved
end Go.Proofs.Ytgandkgcnackkaa.packBack
