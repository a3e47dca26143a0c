/-
  The law BlobCuts: bytes of content that are cut off anywhere, or go on, are none, for every content, every place and every byte.
-/
import Derived.Test.YtpjenkgimkndaaaGreatSma
import Derived.Test.YtpjenkgimkndaaaGreatFew
import Derived.Test.YtpjenkgimkndaaaGreatOpn
import Derived.Test.YtpjenkgimkndaaaGreatPop
import Derived.Deep.Cut
import Derived.WalkKit
import Derived.ProofKit
import Derived.OpenShut
namespace Go.Proofs.YtpjenkgimkndaaaGreat.blobCuts
open Go.ChangeShapes Go.WideShapes Go.ChangeAt Go.RowKit Con Go.Maps Pm Mth
set_option linter.unusedVariables false

theorem own : ownKnob Tryz.prog.godebug = none := by kernel_rfl


theorem few_len {c : Cn} (h : FewP c) : (fCn c).length ≤ 200000 := by
  obtain ⟨h1, h2, h3, h4, h5, h6⟩ := h
  refine fCn_len ⟨by omega, by omega, by omega, by omega⟩ (fun a ha => ?_) (fun f hf => ?_) (fun f hf => ?_)
  · obtain ⟨i, hi, rfl⟩ := List.getElem_of_mem ha; exact h1 i _ (by omega) (List.getElem?_eq_getElem hi)
  · obtain ⟨i, hi, rfl⟩ := List.getElem_of_mem hf; exact (h2 i _ (by omega) (List.getElem?_eq_getElem hi)).1
  · obtain ⟨i, hi, rfl⟩ := List.getElem_of_mem hf; exact (h2 i _ (by omega) (List.getElem?_eq_getElem hi)).2
theorem en_short {l : List Int} (h : l.length ≤ 200000) (hf : Fit l) : ((En l).length : Int) ≤ 3000000 := by
  have := wl_len hf
  have := dg_len10 (n := l.length) (by omega)
  unfold En mk4; simp only [List.length_append, List.length_cons, List.length_nil]; omega
/-- Decode of bytes that are of no content. -/
theorem dec_none {w : World} {B : Nat} {A : Option Addr} {c n : Nat} {b : List Int} (hn : b.length = n) (hr : Rd .u8 w B A b) (hB : B ≤ w.heap.size) (hb : Byt b) (hc : b.length ≤ c) (hl : (b.length : Int) ≤ 10000000) (hd : DL b none) :
    Calls Tryz.prog 18 #[.slice A n c] w fun e w' => e = .returned (.tuple #[cnv zCn, .int .i64 2]) ∧ Hid (Below w.heap.size w w') := by
  subst hn
  refine (decode_any A c b w B hr hB hb hc hl (fun l h => by have := dl_uniq (by omega) h hd; cases this) (fun d h => by have := dc_uniq (by omega) h (.inr ⟨hd, rfl⟩); cases this)).mono ?_
  rintro e w' ⟨k, er, rfl, HK, HO, HB⟩
  obtain ⟨o, h1, h2⟩ := HO.out
  have := dc_uniq (by omega) h1 (.inr ⟨hd, rfl⟩)
  subst this
  rcases h2 with ⟨_, rfl, rfl⟩ | ⟨d, h, _⟩ | ⟨d, h, _⟩
  · exact ⟨rfl, HB⟩
  · cases h
  · cases h
theorem cut_none {l : List Int} (hf : Fit l) (hl : l.length ≤ 200000) {b : List Int} (hb : b = En l) {k : Nat} (hk : k < b.length) : DL (b.take k) none := by
  intro r hr e
  have h1 := en_long r
  rw [← e] at h1
  have h2 : b.length ≤ 3000000 := by have := en_short hl hf; rw [← hb] at this; omega
  have h3 := List.length_take_le' k b
  have := en_inj (l := r) (m := l) (t := b.drop k) hr hf (by omega) (by omega) (by rw [← e, List.take_append_drop, hb])
  have h4 := congrArg List.length this.2
  simp at h4
  omega
theorem more_none {l : List Int} (hf : Fit l) (hl : l.length ≤ 200000) {b : List Int} (hb : b = En l) (x : Int) : DL (b ++ [x]) none := by
  intro r hr e
  have h1 := en_long r
  have h2 : b.length ≤ 3000000 := by have := en_short hl hf; rw [← hb] at this; omega
  have h3 : (En r).length = b.length + 1 := by rw [← e]; simp
  have := en_inj (l := l) (m := r) (t := [x]) hf hr (by omega) (by omega) (by rw [← hb]; exact e)
  cases this.2
theorem below_step' {w w1 w2 : World} {b : Nat} {r : Option Nat} {A : Option Addr} (hb : Below b w w1) (hs : Step w1 w2 r A) (hr : ∀ k, r = some k → b ≤ k) (h : b ≤ w1.heap.size) : Below b w w2 := Pk.below_step hb hs hr h
set_option maxRecDepth 40000 in
set_option maxHeartbeats 8000000 in
theorem walk (W : World) (c : Cn) (hr : RC W W.heap.size c) (hf : Opn.FitC c) (pl : Int) (_ : Fits pl) (m : Int) (hm : 0 ≤ m ∧ m < 256) : Calls Tryz.prog 6 #[cnv c, .int .i64 pl, .int .u8 m] W fun e w' => e = .returned (.bool true) ∧ Below W.heap.size W w' := by
  obtain ⟨x, hx⟩ := bex (FewP c)
  have hb0 : Below W.heap.size W (W.alloc (.cells #[.slice c.aA c.ab.length c.aC, .slice c.uA c.au.length c.uC, .slice c.fA c.fo.length c.fC, .int .i64 c.W, .int .i64 c.H, .slice c.gA c.wl.length c.gC, .int .i64 c.dx, .int .i64 c.dy, .int .i64 c.lx, .int .i64 c.ly] 31)) := by go_grown
  have HB0 := Lib.hid hb0
  have HR0 := Lib.hid (hr.below hb0 (Nat.le_refl _)); have HF := Lib.hid hf; have HX := Lib.hid hx; have HM := Lib.hid hm
  have HC0 : Hid ((W.alloc (.cells #[.slice c.aA c.ab.length c.aC, .slice c.uA c.au.length c.uC, .slice c.fA c.fo.length c.fC, .int .i64 c.W, .int .i64 c.H, .slice c.gA c.wl.length c.gC, .int .i64 c.dx, .int .i64 c.dy, .int .i64 c.lx, .int .i64 c.ly] 31)).heap[W.heap.size]? = some (.cells #[.slice c.aA c.ab.length c.aC, .slice c.uA c.au.length c.uC, .slice c.fA c.fo.length c.fC, .int .i64 c.W, .int .i64 c.H, .slice c.gA c.wl.length c.gC, .int .i64 c.dx, .int .i64 c.dy, .int .i64 c.lx, .int .i64 c.ly] 31)) := Lib.hid (heap_alloc_new W _)
  clear hb0 hr hf hx hm
  go_enter Tryz.func6, Tryz.ntmps6
  go_wp2_with (fail)
  generalize W.alloc (.cells #[.slice c.aA c.ab.length c.aC, .slice c.uA c.au.length c.uC, .slice c.fA c.fo.length c.fC, .int .i64 c.W, .int .i64 c.H, .slice c.gA c.wl.length c.gC, .int .i64 c.dx, .int .i64 c.dy, .int .i64 c.lx, .int .i64 c.ly] 31) = w0 at *
  (with_reducible refine (small_b _).mono ?_); rintro e w1 ⟨rfl, hB1⟩
  have HB1 := Lib.hid hB1
  have HW1 : Hid (Below W.heap.size W w1) := Lib.hid (HB0.out.trans (hB1.mono HB0.out.size))
  have HC1 := Lib.hid (hkeep hB1 HC0.out)
  have HR1 := Lib.hid (HR0.out.below hB1 HB0.out.size)
  clear hB1
  have hc := cellOf' HC1.out; have lc := lt_of_block HC1.out
  go_wp2_with (fail)
  (with_reducible refine (few_c c HR1.out HW1.out.size x HX.out).mono ?_); rintro e w2 ⟨rfl, hB2⟩
  have HW2 : Hid (Below W.heap.size W w2) := Lib.hid (HW1.out.trans (hB2.mono HW1.out.size))
  have HC2 := Lib.hid (hkeep hB2 HC1.out)
  have HR2 := Lib.hid (HR1.out.below hB2 HW1.out.size)
  clear hB2 hc lc
  cases x with
  | false =>
    go_wp2
    go_ret
    exact ⟨rfl, HW2.out⟩
  | true =>
    have HFew := Lib.hid (HX.out.1 rfl)
    have HLen := Lib.hid (few_len HFew.out)
    have HFit := Lib.hid (Opn.fit_all HF.out HFew.out.sm)
    have hc := cellOf' HC2.out; have lc := lt_of_block HC2.out
    go_wp2_with (fail)
    (with_reducible refine (encode_c c HR2.out HW2.out.size HFew.out.sm (fun _ => HFit.out) (by have := HLen.out; omega)).mono ?_); rintro e w3 ⟨lm, A, cc, er, rfl, HH, HO, HB3⟩
    have HW3 : Hid (Below W.heap.size W w3) := Lib.hid (HW2.out.trans (HB3.out.mono HW2.out.size))
    clear hc lc
    rcases HH.out with ⟨_, h1, h2⟩ | ⟨_, h1, h2⟩
    · subst h1
      have HLm := Lib.hid h2; clear h2
      have h5 : 5 ≤ lm.length := by rw [HLm.out]; have := en_long (fCn c); omega
      have h9 : (lm.length : Int) ≤ 3000000 := by rw [HLm.out]; exact en_short HLen.out HFit.out
      have hlt1 : decide ((lm.length : Int) < 1) = false := by simp; omega
      have hcap : lm.length ≤ cc := Own.cap HO.out
      have HCap := Lib.hid hcap
      have HRb := Lib.hid (Own.rd HO.out)
      obtain ⟨g, hg⟩ : ∃ g, A = some ⟨g, 0, none⟩ := by
        rcases HO.out.2 with ⟨hv, h0⟩ | ⟨g, cap, cur, hv, _⟩
        · omega
        · injection hv with hA; exact ⟨g, hA⟩
      subst hg
      have HByt : Hid (Byt lm) := Lib.hid (by rw [HLm.out]; exact en_byt _)
      have HD1 : Hid (∀ k : Nat, k < lm.length → Calls Tryz.prog 18 #[.slice (some ⟨g, 0, none⟩) k cc] w3 fun e w' => e = .returned (.tuple #[cnv zCn, .int .i64 2]) ∧ Hid (Below w3.heap.size w3 w')) := Lib.hid (fun k hk => dec_none (b := lm.take k) (by rw [List.length_take]; omega) (HRb.out.take k) (Nat.le_refl _) (HByt.out.take k) (by rw [List.length_take]; omega) (by rw [List.length_take]; omega) (cut_none HFit.out HLen.out HLm.out hk))
      have HN2 := Lib.hid (more_none HFit.out HLen.out HLm.out m)
      go_wp2_with (fail)
      all_goals
       (with_reducible refine (HD1.out _ (by omega)).mono ?_); rintro e w5 ⟨rfl, HB5⟩
       have HW5 : Hid (Below W.heap.size W w5) := Lib.hid (HW3.out.trans (HB5.out.mono HW3.out.size))
       have HE : Hid (Own ((w5.alloc (.cells #[.slice zCn.aA zCn.ab.length zCn.aC, .slice zCn.uA zCn.au.length zCn.uC, .slice zCn.fA zCn.fo.length zCn.fC, .int .i64 zCn.W, .int .i64 zCn.H, .slice zCn.gA zCn.wl.length zCn.gC, .int .i64 zCn.dx, .int .i64 zCn.dy, .int .i64 zCn.lx, .int .i64 zCn.ly] 31)).alloc (.cells #[] 5)) (w5.heap.size + 1) .u8 5 (some ⟨w5.heap.size + 1, 0, none⟩) 0 []) := Lib.hid (by have := Pk.own_empty (w5.alloc (.cells #[.slice zCn.aA zCn.ab.length zCn.aC, .slice zCn.uA zCn.au.length zCn.uC, .slice zCn.fA zCn.fo.length zCn.fC, .int .i64 zCn.W, .int .i64 zCn.H, .slice zCn.gA zCn.wl.length zCn.gC, .int .i64 zCn.dx, .int .i64 zCn.dy, .int .i64 zCn.lx, .int .i64 zCn.ly] 31)); simpa using this)
       have HR5 : Hid (Rd .u8 ((w5.alloc (.cells #[.slice zCn.aA zCn.ab.length zCn.aC, .slice zCn.uA zCn.au.length zCn.uC, .slice zCn.fA zCn.fo.length zCn.fC, .int .i64 zCn.W, .int .i64 zCn.H, .slice zCn.gA zCn.wl.length zCn.gC, .int .i64 zCn.dx, .int .i64 zCn.dy, .int .i64 zCn.lx, .int .i64 zCn.ly] 31)).alloc (.cells #[] 5)) w5.heap.size (some ⟨g, 0, none⟩) lm) := Lib.hid ((((HRb.out.below HB5.out (Nat.le_refl _)).more HB5.out.size).alloc (Nat.le_refl _) _).alloc (by simp) _)
       have HW6 : Hid (Below W.heap.size W ((w5.alloc (.cells #[.slice zCn.aA zCn.ab.length zCn.aC, .slice zCn.uA zCn.au.length zCn.uC, .slice zCn.fA zCn.fo.length zCn.fC, .int .i64 zCn.W, .int .i64 zCn.H, .slice zCn.gA zCn.wl.length zCn.gC, .int .i64 zCn.dx, .int .i64 zCn.dy, .int .i64 zCn.lx, .int .i64 zCn.ly] 31)).alloc (.cells #[] 5))) := Lib.hid ((HW5.out.alloc HW5.out.size _).alloc (by have := HW5.out.size; simp; omega) _)
       go_wp2_with (first
         | (at_builtin; refine Pm.wpList_app (K := .u8) (t := 38) (e := 5) Tryz.underlying38 byte_info rfl (by omega) rfl (.tmp 45) (.tmp 46) rfl (w5.heap.size + 1) w5.heap.size (some ⟨w5.heap.size + 1, 0, none⟩) 0 [] lm (some ⟨g, 0, none⟩) cc rfl rfl HE.out HR5.out (by simp; omega) (by simp) ?_; intro A7 c7 w7 l7 HL7 HO7 HS7; have HL7' : Hid (l7 = lm) := Lib.hid HL7.out; clear HL7)
         | (at_builtin; refine Pm.wpList_app (K := .u8) (t := 38) (e := 5) Tryz.underlying38 byte_info rfl (by omega) rfl (.tmp 47) (.tmp 49) rfl (w5.heap.size + 1) (w7.heap.size + 1) A7 c7 l7 [m] (some ⟨w7.heap.size, 0, none⟩) 1 rfl rfl (HO7.out.alloc _) (rd_at rfl rfl (by simp)) (by rw [HL7'.out]; simp; omega) (by have := HS7.out.grown.size; simp at this ⊢; omega) ?_; intro A8 c8 w8 l8 HL8 HO8 HS8; have HL8' : Hid (l8 = lm ++ [m]) := Lib.hid (by rw [HL8.out, HL7'.out]); clear HL8; have HD8 := Lib.hid (dec_none (b := l8) (n := l8.length) rfl (Own.rd HO8.out) (Nat.le_refl _) (by rw [HL8'.out]; exact HByt.out.app (fun y hy => by simp at hy; subst hy; exact HM.out)) (Own.cap HO8.out) (by rw [HL8'.out]; simp; omega) (by rw [HL8'.out]; exact HN2.out)))
         | ((with_reducible refine HD8.out.mono ?_); rintro e w9 ⟨rfl, HB9⟩))
       go_ret
       have q1 : Below W.heap.size W w7 := below_step' HW6.out HS7.out (by have := HW5.out.size; intro k hk; simp [blk] at hk; omega) HW6.out.size
       have q2 : Below W.heap.size W w8 := below_step' (q1.alloc q1.size (.cells #[.int .u8 m] 5)) HS8.out (fun k hk => by have := (HO7.out.lt k hk).1; have := HW5.out.size; omega) (by have := q1.size; simp; omega)
       exact ⟨rfl, (q2.trans (HB9.out.mono q2.size)).alloc (q2.trans (HB9.out.mono q2.size)).size _⟩
    · subst h1
      go_wp2
      go_ret
      exact ⟨rfl, HW3.out⟩


set_option maxRecDepth 100000 in
theorem lifted (os : Os) (started : os.Started) (H : Type) (enc : TypeId × Value → H) :
    ReturnsInHanded {} Tryz.checked os 6 .any (Rows.blobCutsSpec.pre6 enc Tryz.prog Tryz.f6 Rows.blobCutsRow.domain false) (Rows.blobCutsSpec.post enc Tryz.prog Tryz.f6 false true false false) := by
  refine returnsInHanded_of_change (C := Tryz.checked) own started (by kernel_rfl) Tryz.func6
    (ChangeSpec.witness6 (enc := enc) (C := Tryz.checked) false ⟨#[], #[.agg #[.slice none 0 0, .slice none 0 0, .slice none 0 0, .int .i64 0, .int .i64 0, .slice none 0 0, .int .i64 0, .int .i64 0, .int .i64 0, .int .i64 0], .int .i64 0, .int .u8 0], []⟩ 8 (by kernel_rfl) (by kernel_rfl) (by kernel_rfl) (by kernel_rfl)) ?_
  intro W base args ds gs before hval0 hW hcnd _
  have hval : ∀ (j : Nat) t v, Tryz.f6.params[j]? = some t → args[j]? = some v → Value.okWide Tryz.prog W .any base t v := hval0
  have hW' := hW
  obtain ⟨p, q, hA0, hV, rfl, hfz, hnd⟩ := hW
  have hA : DataW.TrodAll enc Tryz.prog W 0 (fun _ => true) true Tryz.f6.params.toList args.toList ds p := hA0
  rw [Tryz.params6] at hA hval
  obtain ⟨v0, vs0, d0, ds0, p0, q0, hargs, rfl, rfl, h0, r0⟩ := trodAll_cons hA
  obtain ⟨v1, vs1, d1, ds1, p1, q1, rfl, rfl, rfl, h1, r1⟩ := trodAll_cons r0
  obtain ⟨v2, vs2, d2, ds2, p2, q2, rfl, rfl, rfl, h2, r2⟩ := trodAll_cons r1
  obtain ⟨rfl, rfl, rfl⟩ := trodAll_nil r2
  obtain rfl : args = #[v0, v1, v2] := by cases args; simp_all
  obtain ⟨rfl, rfl⟩ := trodVars_none hV
  clear hA0 hval0
  have hlt0 : ∀ x ∈ p0, x.block < W.heap.size := fun x hx => hW'.lt x (by simp [hx])
  have hk0 := h0
  obtain ⟨c0, rfl, hr0, hf0⟩ := Opn.viewC (hval 0 31 v0 rfl rfl) h0
  obtain ⟨a1, rfl, rfl, rfl, w1⟩ := open_int Tryz.underlying3 (hval 1 3 v1 rfl rfl) h1
  obtain ⟨a2, rfl, rfl, rfl, w2⟩ := open_int Tryz.underlying5 (hval 2 5 v2 rfl rfl) h2
  have u2 : 0 ≤ a2 ∧ a2 < 256 := by have := bounds_u8 w2; omega
  simp only [List.append_nil] at hW'
  refine (walk W c0 hr0 hf0 a1 (Opn.fits_of w1) a2 u2).mono fun e W' ⟨he, hg⟩ => ?_
  subst he
  exact ⟨_, rfl, _, _, _, [], _, [], hW', (trodAll_cons_mk (shut_bool Tryz.underlying4 _) trodAll_mk0), (trodAll_cons_mk (Below.trod Opn.laidOut (by kernel_rfl) (of_decide_eq_true (by kernel_rfl)) hk0 hg hlt0) (trodAll_cons_mk (shut_int Tryz.underlying3 w1) (trodAll_cons_mk (shut_int Tryz.underlying5 w2) trodAll_mk0))), rfl, hg.frame _, fun h => by cases h⟩

theorem over : Rows.blobCutsRow.holds Tryz.pinned (OpenSpec.ofChange Rows.blobCutsSpec) :=
  OpenClaim.holds_of_wide 6 Tryz.f6 rfl rfl rfl rfl rfl rfl rfl ⟨rfl, rfl, rfl, rfl, rfl⟩ rfl rfl rfl rfl rfl (by kernel_rfl) Tryz.func6 (by kernel_rfl)
    (of_decide_eq_true (by kernel_rfl)) (by unfold Func.isWrapper; first | (rw [if_pos (by decide +kernel)]; kernel_rfl) | (rw [if_neg (by decide +kernel)]; exact ⟨rfl, rfl⟩))
    (fun os started H enc _ => lifted os started H enc)

/-- The given statement. -/
theorem proved : Rows.BlobCutsSaid :=
  over
#print axioms proved
end Go.Proofs.YtpjenkgimkndaaaGreat.blobCuts
