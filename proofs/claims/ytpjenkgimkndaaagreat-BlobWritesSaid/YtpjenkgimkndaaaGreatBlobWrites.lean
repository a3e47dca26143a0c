/-
  The law BlobWrites: the numbers and the bytes of content are those that the document says, and content is not changed, for every content.
-/
import Derived.Test.YtpjenkgimkndaaaGreatSma
import Derived.Test.YtpjenkgimkndaaaGreatFew
import Derived.Test.YtpjenkgimkndaaaGreatOpn
import Derived.Test.YtpjenkgimkndaaaGreatRfb
import Derived.Test.YtpjenkgimkndaaaGreatRcm
import Derived.Test.YtpjenkgimkndaaaGreatEnc
import Derived.Test.YtpjenkgimkndaaaGreatRcq
import Derived.Test.YtpjenkgimkndaaaGreatRsc
import Derived.Deep.Cut
import Derived.WalkKit
import Derived.ProofKit
import Derived.OpenShut
namespace Go.Proofs.YtpjenkgimkndaaaGreat.blobWrites
open Go.ChangeShapes Go.WideShapes Go.ChangeAt Go.RowKit Con Go.Maps Pm Mth
set_option linter.unusedVariables false

theorem own : ownKnob Tryz.prog.godebug = none := by kernel_rfl


theorem few_len {c : Cn} (h : FewP c) : (fCn c).length ≤ 200000 := by
  obtain ⟨h1, h2, h3, h4, h5, h6⟩ := h
  refine fCn_len ⟨by omega, by omega, by omega, by omega⟩ (fun a ha => ?_) (fun f hf => ?_) (fun f hf => ?_)
  · obtain ⟨i, hi, rfl⟩ := List.getElem_of_mem ha; exact h1 i _ (by omega) (List.getElem?_eq_getElem hi)
  · obtain ⟨i, hi, rfl⟩ := List.getElem_of_mem hf; exact (h2 i _ (by omega) (List.getElem?_eq_getElem hi)).1
  · obtain ⟨i, hi, rfl⟩ := List.getElem_of_mem hf; exact (h2 i _ (by omega) (List.getElem?_eq_getElem hi)).2
theorem rints_mk (ad : Addr) (A' : Option Addr) (c' : Nat) (m : List Int) (w : World) (B B' : Nat) (hr : Rd .u8 w B (some ad) mk4) (hB : B ≤ w.heap.size) (hr' : Rd .i64 w B' A' m) (hB' : B' ≤ w.heap.size) (hm : Fit m) (hm2 : (m.length : Int) ≤ 800000) :
    Calls Tryz.prog 35 #[.slice (some ad) 4 4, .slice A' m.length c'] w (Pk.New w (En m)) :=
  Pk.rints_any (some ad) 4 mk4 A' c' m w B B' hr hB (by simp [mk4]) hr' hB' hm hm2
theorem rd_mk1 (w : World) : Rd .u8 (w.alloc (.cells #[.int .u8 66, .int .u8 82, .int .u8 87, .int .u8 49] 5)) (w.heap.size + 1) (some ⟨w.heap.size, 0, none⟩) mk4 := rd_new w mk4 _ 5 rfl
set_option maxRecDepth 20000 in
set_option maxHeartbeats 4000000 in
theorem rencode_c {w : World} {B : Nat} (x : Cn) (hr : RC w B x) (hB : B ≤ w.heap.size) (hs : Sm x) (hf : RightC x → Fit (fCn x)) (hl : ((fCn x).length : Int) ≤ 800000) :
    Calls Tryz.prog 14 #[cnv x] w (EA w x) := by
  obtain ⟨y, hy⟩ := bex (RightC x)
  have hb0 : Below w.heap.size w (w.alloc (oCn x)) := by go_grown
  have HBX : Hid (∀ V, Below (w.heap.size + 1) (w.alloc (oCn x)) V → V.heap[w.heap.size]? = some (oCn x)) := Lib.hid (fun V hV => (hV.block _ (by omega)).trans (heap_alloc_new w _))
  have HR := Lib.hid (hr.below hb0 hB); have HB0 := Lib.hid hb0; have HS := Lib.hid hs; have HF := Lib.hid hf; have HL := Lib.hid hl; have HY := Lib.hid hy; have HBw := Lib.hid hB
  have hsz0 : (w.alloc (oCn x)).heap.size = w.heap.size + 1 := by simp
  clear hr hs hf hl hy hb0 hB
  go_enter Tryz.func14, Tryz.ntmps14
  go_wp2_with (fail)
  generalize w.alloc (oCn x) = w0 at *
  have HSz := Lib.hid hsz0
  clear hsz0
  have hlt0 : w.heap.size < w0.heap.size := by have := HSz.out; omega
  (with_reducible refine (rright10 HR.out (by have := HBw.out; omega) HS.out y HY.out).mono ?_); rintro e w1 ⟨rfl, hB1⟩
  have HB1 := Lib.hid hB1
  have hlt1 : w.heap.size < w1.heap.size := Nat.lt_of_lt_of_le hlt0 hB1.size
  have HV1 : Hid (Below w.heap.size w w1) := Lib.hid (HB0.out.trans (hB1.mono (by omega)))
  clear hB1
  cases y with
  | false =>
    go_wp2
    go_ret2
    exact ⟨[], none, 0, 1, rfl, Lib.hid (.inr ⟨fun h => (by have := HY.out.2 h; cases this), rfl, rfl⟩), Lib.hid (own_none8 _ _), HV1⟩
  | true =>
    have HRt := Lib.hid (HY.out.1 rfl)
    have HZ2 := Lib.hid (HBX.out (w1.alloc (.cells #[.int .u8 66, .int .u8 82, .int .u8 87, .int .u8 49] 5)) ((HB1.out.mono (by have := HSz.out; omega)).alloc (by omega) _))
    have hz2 := cellOf1 HZ2.out; have lz2 := lt_blk1 HZ2.out
    have HV2 : Hid (Below w.heap.size w (w1.alloc (.cells #[.int .u8 66, .int .u8 82, .int .u8 87, .int .u8 49] 5))) := Lib.hid (HV1.out.alloc (by omega) _)
    have HM := Lib.hid (rd_mk1 w1)
    have HRm : Hid (RC (w1.alloc (.cells #[.int .u8 66, .int .u8 82, .int .u8 87, .int .u8 49] 5)) w.heap.size x) := Lib.hid ((HR.out.below (HB1.out.mono (by have := HSz.out; omega)) HBw.out |>.below ((Below.refl w1.heap.size w1).alloc (Nat.le_refl _) (.cells #[.int .u8 66, .int .u8 82, .int .u8 87, .int .u8 49] 5)) (by have := HBw.out; omega)).more HBw.out)
    have hlt2 : w.heap.size < (w1.alloc (.cells #[.int .u8 66, .int .u8 82, .int .u8 87, .int .u8 49] 5)).heap.size := by simp; omega
    have HLt2 := Lib.hid hlt2
    go_wp2_with (first
      | ((with_reducible refine (rflat_any (w := w1.alloc (.cells #[.int .u8 66, .int .u8 82, .int .u8 87, .int .u8 49] 5)) x HRm.out (Nat.le_of_lt HLt2.out) HS.out (by have := HL.out; omega)).mono ?_); rintro e w3 ⟨l3, A3, c3, HL3, rfl, HO3, HB3⟩)
      | ((with_reducible refine (rints_mk _ A3 c3 l3 _ _ w3.heap.size (HM.out.below HB3.out (by simp)) (by have := HB3.out.size; simp at this; omega) (Own.rd HO3.out) (Nat.le_refl _) (by rw [HL3.out]; exact HF.out HRt.out) (by rw [HL3.out]; exact HL.out)).mono ?_); rintro e w4 ⟨l4, A4, c4, HL4, rfl, HO4, HB4⟩))
    go_ret2
    refine ⟨l4, A4, c4, 0, rfl, Lib.hid (.inl ⟨HRt.out, rfl, by rw [HL4.out, HL3.out]⟩), Lib.hid (own_base HO4.out (Nat.le_trans (HV2.out.trans (HB3.out.mono (Nat.le_of_lt HLt2.out))).size (Nat.le_refl _))), Lib.hid ?_⟩
    exact (HV2.out.trans (HB3.out.mono (Nat.le_of_lt HLt2.out))).trans (HB4.out.mono (Nat.le_trans (Nat.le_of_lt HLt2.out) HB3.out.size))

theorem own_at {w : World} {base : Nat} {A : Option Addr} {c : Nat} {l : List Int} (h : Own w base .i64 3 A c l) (hl : l ≠ []) : ∃ g cur, A = some ⟨g, 0, none⟩ ∧ base ≤ g ∧ w.heap[g]? = some (.cells cur 3) ∧ l.length ≤ cur.size := by
  rcases h.2 with ⟨_, h0⟩ | ⟨g, cap, cur, hv, hb, hg, hn, hm, hs, _⟩
  · exact absurd (List.length_eq_zero_iff.1 h0) hl
  · injection hv with hA
    exact ⟨g, cur, hA, hb, hg, by omega⟩
theorem ea_same {P : Prop} {l m n : List Int} {e f : Int} (h : (P ∧ e = 0 ∧ l = n) ∨ (¬ P ∧ e = 1 ∧ l = [])) (k : (P ∧ f = 0 ∧ m = n) ∨ (¬ P ∧ f = 1 ∧ m = [])) : m = l ∧ f = e := by
  rcases h with ⟨a, rfl, rfl⟩ | ⟨a, rfl, rfl⟩ <;> rcases k with ⟨b, rfl, rfl⟩ | ⟨b, rfl, rfl⟩
  · exact ⟨rfl, rfl⟩
  · exact absurd a b
  · exact absurd b a
  · exact ⟨rfl, rfl⟩
set_option maxRecDepth 40000 in
set_option maxHeartbeats 16000000 in
theorem walk (W : World) (c : Cn) (hr : RC W W.heap.size c) (hf : Opn.FitC c) : Calls Tryz.prog 3 #[cnv c] W fun e w' => e = .returned (.bool true) ∧ Below W.heap.size W w' := by
  obtain ⟨x, hx⟩ := bex (FewP c)
  have hb0 : Below W.heap.size W (W.alloc (.cells #[.slice c.aA c.ab.length c.aC, .slice c.uA c.au.length c.uC, .slice c.fA c.fo.length c.fC, .int .i64 c.W, .int .i64 c.H, .slice c.gA c.wl.length c.gC, .int .i64 c.dx, .int .i64 c.dy, .int .i64 c.lx, .int .i64 c.ly] 31)) := by go_grown
  have HB0 := Lib.hid hb0
  have HR0 := Lib.hid (hr.below hb0 (Nat.le_refl _)); have HF := Lib.hid hf; have HX := Lib.hid hx
  have HC0 : Hid ((W.alloc (.cells #[.slice c.aA c.ab.length c.aC, .slice c.uA c.au.length c.uC, .slice c.fA c.fo.length c.fC, .int .i64 c.W, .int .i64 c.H, .slice c.gA c.wl.length c.gC, .int .i64 c.dx, .int .i64 c.dy, .int .i64 c.lx, .int .i64 c.ly] 31)).heap[W.heap.size]? = some (.cells #[.slice c.aA c.ab.length c.aC, .slice c.uA c.au.length c.uC, .slice c.fA c.fo.length c.fC, .int .i64 c.W, .int .i64 c.H, .slice c.gA c.wl.length c.gC, .int .i64 c.dx, .int .i64 c.dy, .int .i64 c.lx, .int .i64 c.ly] 31)) := Lib.hid (heap_alloc_new W _)
  clear hb0 hr hf hx
  go_enter Tryz.func3, Tryz.ntmps3
  go_wp2_with (fail)
  generalize W.alloc (.cells #[.slice c.aA c.ab.length c.aC, .slice c.uA c.au.length c.uC, .slice c.fA c.fo.length c.fC, .int .i64 c.W, .int .i64 c.H, .slice c.gA c.wl.length c.gC, .int .i64 c.dx, .int .i64 c.dy, .int .i64 c.lx, .int .i64 c.ly] 31) = w0 at *
  (with_reducible refine (small_b _).mono ?_); rintro e w1 ⟨rfl, hB1⟩
  have HW1 : Hid (Below W.heap.size W w1) := Lib.hid (HB0.out.trans (hB1.mono HB0.out.size))
  have HC1 := Lib.hid (hkeep hB1 HC0.out)
  have HR1 := Lib.hid (HR0.out.below hB1 HB0.out.size)
  clear hB1
  have hc := cellOf' HC1.out; have lc := lt_of_block HC1.out
  go_wp2_with (fail)
  (with_reducible refine (few_c c HR1.out HW1.out.size x HX.out).mono ?_); rintro e w2 ⟨rfl, hB2⟩
  have HW2 : Hid (Below W.heap.size W w2) := Lib.hid (HW1.out.trans (hB2.mono HW1.out.size))
  have HC2 := Lib.hid (hkeep hB2 HC1.out)
  have HR2 := Lib.hid (HR1.out.below hB2 HW1.out.size)
  clear hB2 hc lc
  cases x with
  | false =>
    go_wp2
    go_ret
    exact ⟨rfl, HW2.out⟩
  | true =>
    have HFew := Lib.hid (HX.out.1 rfl)
    have HLen := Lib.hid (few_len HFew.out)
    have HSm := Lib.hid HFew.out.sm
    have HFit := Lib.hid (Opn.fit_all HF.out HFew.out.sm)
    have hc := cellOf' HC2.out; have lc := lt_of_block HC2.out
    go_wp2_with (fail)
    (with_reducible refine (Rc.rcopy_c c HR2.out HW2.out.size HSm.out).mono ?_); rintro e w3 ⟨kc, rfl, HKp, HKr, hB3⟩
    have HB3 := Lib.hid hB3; clear hB3 hc lc
    have HW3 : Hid (Below W.heap.size W (w3.alloc (.cells #[.slice kc.aA kc.ab.length kc.aC, .slice kc.uA kc.au.length kc.uC, .slice kc.fA kc.fo.length kc.fC, .int .i64 kc.W, .int .i64 kc.H, .slice kc.gA kc.wl.length kc.gC, .int .i64 kc.dx, .int .i64 kc.dy, .int .i64 kc.lx, .int .i64 kc.ly] 31))) := Lib.hid ((HW2.out.trans (HB3.out.mono HW2.out.size)).alloc (HW2.out.trans (HB3.out.mono HW2.out.size)).size _)
    have HC3 : Hid ((w3.alloc (.cells #[.slice kc.aA kc.ab.length kc.aC, .slice kc.uA kc.au.length kc.uC, .slice kc.fA kc.fo.length kc.fC, .int .i64 kc.W, .int .i64 kc.H, .slice kc.gA kc.wl.length kc.gC, .int .i64 kc.dx, .int .i64 kc.dy, .int .i64 kc.lx, .int .i64 kc.ly] 31)).heap[W.heap.size]? = some (.cells #[.slice c.aA c.ab.length c.aC, .slice c.uA c.au.length c.uC, .slice c.fA c.fo.length c.fC, .int .i64 c.W, .int .i64 c.H, .slice c.gA c.wl.length c.gC, .int .i64 c.dx, .int .i64 c.dy, .int .i64 c.lx, .int .i64 c.ly] 31)) := Lib.hid ((Below.heap_alloc _ _ _ (lt_of_block (hkeep HB3.out HC2.out))).trans (hkeep HB3.out HC2.out))
    have HK3 : Hid ((w3.alloc (.cells #[.slice kc.aA kc.ab.length kc.aC, .slice kc.uA kc.au.length kc.uC, .slice kc.fA kc.fo.length kc.fC, .int .i64 kc.W, .int .i64 kc.H, .slice kc.gA kc.wl.length kc.gC, .int .i64 kc.dx, .int .i64 kc.dy, .int .i64 kc.lx, .int .i64 kc.ly] 31)).heap[w3.heap.size]? = some (.cells #[.slice kc.aA kc.ab.length kc.aC, .slice kc.uA kc.au.length kc.uC, .slice kc.fA kc.fo.length kc.fC, .int .i64 kc.W, .int .i64 kc.H, .slice kc.gA kc.wl.length kc.gC, .int .i64 kc.dx, .int .i64 kc.dy, .int .i64 kc.lx, .int .i64 kc.ly] 31)) := Lib.hid (heap_alloc_new w3 _)
    have HA3 : Hid (Below w3.heap.size w3 (w3.alloc (.cells #[.slice kc.aA kc.ab.length kc.aC, .slice kc.uA kc.au.length kc.uC, .slice kc.fA kc.fo.length kc.fC, .int .i64 kc.W, .int .i64 kc.H, .slice kc.gA kc.wl.length kc.gC, .int .i64 kc.dx, .int .i64 kc.dy, .int .i64 kc.lx, .int .i64 kc.ly] 31))) := Lib.hid ((Below.refl _ _).alloc (Nat.le_refl _) _)
    have HR3 := Lib.hid (((HR2.out.below HB3.out HW2.out.size).below HA3.out (HW2.out.trans (HB3.out.mono HW2.out.size)).size).more HW3.out.size)
    have HQ3 := Lib.hid ((HKr.out.below HA3.out (Nat.le_refl _)).more HA3.out.size)
    have hc := cellOf' HC3.out; have lc := lt_of_block HC3.out
    have hk := cellOf' HK3.out; have lk := lt_of_block HK3.out
    go_wp2_with (fail)
    generalize hP : w3.heap.size = P at *
    generalize w3.alloc (.cells #[.slice kc.aA kc.ab.length kc.aC, .slice kc.uA kc.au.length kc.uC, .slice kc.fA kc.fo.length kc.fC, .int .i64 kc.W, .int .i64 kc.H, .slice kc.gA kc.wl.length kc.gC, .int .i64 kc.dx, .int .i64 kc.dy, .int .i64 kc.lx, .int .i64 kc.ly] 31) = w4 at *
    clear hP
    (with_reducible refine (flat_c c HR3.out (Nat.le_refl _) (by have := HLen.out; omega)).mono ?_); rintro e w5 ⟨l5, A5, c5, HL5, rfl, HO5, HB5⟩
    have HC5 := Lib.hid (hkeep HB5.out HC3.out); have HK5 := Lib.hid (hkeep HB5.out HK3.out)
    have HR5 := Lib.hid ((HR3.out.below HB5.out (Nat.le_refl _)))
    clear hc lc hk lk
    have hc := cellOf' HC5.out; have lc := lt_of_block HC5.out
    go_wp2_with (first
      | ((with_reducible refine (rflat_any c HR5.out HB5.out.size HSm.out (by have := HLen.out; omega)).mono ?_); rintro e w6 ⟨l6, A6, c6, HL6, rfl, HO6, HB6⟩)
      | ((with_reducible refine (Pk.same_any A5 A6 c5 c6 l5 l6 _ w5.heap.size _ ((Own.rd HO5.out).below HB6.out (Nat.le_refl _)) (Own.rd HO6.out) (by rw [HL6.out, HL5.out]) (by rw [HL5.out]; have := HLen.out; omega)).mono ?_); rintro e w7 ⟨rfl, q7, rfl⟩))
    obtain ⟨g, cur, hg, hgb, hgc, hgn⟩ := own_at HO5.out (by rw [HL5.out]; unfold fCn fRows; simp)
    have HG : Hid (∃ cur, (w6.drewN q7).heap[g]? = some (.cells cur 3) ∧ l5.length ≤ cur.size) := Lib.hid ⟨cur, (HB6.out.block g (lt_of_block hgc)).trans hgc, hgn⟩
    have HGb := Lib.hid hgb
    have HLn : Hid ((l5.length : Int) ≤ 1000000) := Lib.hid (by rw [HL5.out]; have := HLen.out; omega)
    have HW7 : Hid (Below w4.heap.size w4 (w6.drewN q7)) := Lib.hid (below_drewN (HB5.out.trans (HB6.out.mono HB5.out.size)) _)
    clear hgb hgc hgn cur hc lc
    subst hg
    generalize w6.drewN q7 = w7 at *
    go_loopg [8] l5.length (fun m s8 wr => ∃ (k : Nat), k ≤ l5.length ∧ m = l5.length - k ∧ s8 = .int .i64 (k : Int) ∧ Hid (Below w4.heap.size w4 wr) ∧ Hid (∃ cur, wr.heap[g]? = some (.cells cur 3) ∧ l5.length ≤ cur.size))
    case atStart => exact ⟨0, by omega, rfl, rfl, HW7, HG⟩
    case round =>
      clear HW7 HG
      obtain ⟨k, hk, rfl, rfl, HWr, HG⟩ := hrel
      by_cases hlt : k < l5.length
      · have hkl' : (k : Int) < l5.length := by omega
        have hkb : (k : Int) ≤ 1000000 := by have := HLn.out; omega
        obtain ⟨cur, hgc, hgn⟩ := HG.out
        obtain ⟨v, hv⟩ : ∃ v, cur[k]? = some v := ⟨_, Array.getElem?_eq_getElem (by omega)⟩
        have hz : wr.cell? ⟨g, k, none⟩ = some v := (cellOf' hgc k).trans hv
        have fz := frozOf1 hgc k
        have HN : Hid (∃ cur, (wr.setCell ⟨g, k, none⟩ (.int .i64 (-7))).heap[g]? = some (.cells cur 3) ∧ l5.length ≤ cur.size) := Lib.hid ⟨_, heap_setCell_same _ g k _ 3 _ hgc, by simpa using hgn⟩
        have HGc := Lib.hid hgc; clear hgc hgn hv
        go_wp2_with (fail)
        go_roundg (l5.length - (k + 1))
        case measure => omega
        case rel => exact ⟨k + 1, by omega, rfl, by go_num, Lib.hid (HWr.out.setCell (p := ⟨g, k, none⟩) HGb.out _), HN⟩
      · have hkl' : decide (k < l5.length) = false := by simp; omega
        have HCr := Lib.hid (hkeep HWr.out HC3.out); have HKr2 := Lib.hid (hkeep HWr.out HK3.out)
        have HRr := Lib.hid (HR3.out.below HWr.out (Nat.le_refl _)); have HQr := Lib.hid (HQ3.out.below HWr.out (Nat.le_refl _))
        have hc := cellOf' HCr.out; have lc := lt_of_block HCr.out
        go_wp2_with (first
          | ((with_reducible refine (encode_c c HRr.out HWr.out.size HSm.out (fun _ => HFit.out) (by have := HLen.out; omega)).mono ?_); rintro e w8 ⟨l8, A8, c8, e8, rfl, HH8, HO8, HB8⟩; have HC8 := Lib.hid (hkeep HB8.out HCr.out); clear hc lc; have hc := cellOf' HC8.out; have lc := lt_of_block HC8.out)
          | ((with_reducible refine (rencode_c c ((HRr.out.more HWr.out.size).below HB8.out (Nat.le_refl _)) HB8.out.size HSm.out (fun _ => HFit.out) (by have := HLen.out; omega)).mono ?_); rintro e w9 ⟨l9, A9, c9, e9, rfl, HH9, HO9, HB9⟩; obtain ⟨rfl, rfl⟩ := ea_same HH8.out HH9.out; have HC9 := Lib.hid (hkeep HB9.out HC8.out); have HK9 := Lib.hid (hkeep HB9.out (hkeep HB8.out HKr2.out)); clear hc lc; have hc := cellOf' HC9.out; have lc := lt_of_block HC9.out; have hk := cellOf' HK9.out; have lk := lt_of_block HK9.out; have h1 := conv c8 ((Own.rd HO8.out).below HB9.out (Nat.le_refl _)); have h2 := conv c9 (Own.rd HO9.out))
          | ((with_reducible refine (rsame_c c kc ((HRr.out.below HB8.out HWr.out.size).below HB9.out (Nat.le_trans HWr.out.size HB8.out.size)) ((HQr.out.below HB8.out HWr.out.size).below HB9.out (Nat.le_trans HWr.out.size HB8.out.size)) (Nat.le_trans (Nat.le_trans HWr.out.size HB8.out.size) HB9.out.size) HSm.out true (by simp [HKp.out])).mono ?_); rintro e wA ⟨rfl, hBA⟩))
        go_ret
        have q1 : Below W.heap.size W wr := HW3.out.trans (HWr.out.mono HW3.out.size)
        have q2 := q1.trans (HB8.out.mono q1.size)
        have q3 := q2.trans (HB9.out.mono q2.size)
        exact ⟨rfl, q3.trans (hBA.mono q3.size)⟩


set_option maxRecDepth 100000 in
theorem lifted (os : Os) (started : os.Started) (H : Type) (enc : TypeId × Value → H) :
    ReturnsInHanded {} Tryz.checked os 3 .any (Rows.blobWritesSpec.pre6 enc Tryz.prog Tryz.f3 Rows.blobWritesRow.domain false) (Rows.blobWritesSpec.post enc Tryz.prog Tryz.f3 false true false false) := by
  refine returnsInHanded_of_change (C := Tryz.checked) own started (by kernel_rfl) Tryz.func3
    (ChangeSpec.witness6 (enc := enc) (C := Tryz.checked) false ⟨#[], #[.agg #[.slice none 0 0, .slice none 0 0, .slice none 0 0, .int .i64 0, .int .i64 0, .slice none 0 0, .int .i64 0, .int .i64 0, .int .i64 0, .int .i64 0]], []⟩ 8 (by kernel_rfl) (by kernel_rfl) (by kernel_rfl) (by kernel_rfl)) ?_
  intro W base args ds gs before hval0 hW hcnd _
  have hval : ∀ (j : Nat) t v, Tryz.f3.params[j]? = some t → args[j]? = some v → Value.okWide Tryz.prog W .any base t v := hval0
  have hW' := hW
  obtain ⟨p, q, hA0, hV, rfl, hfz, hnd⟩ := hW
  have hA : DataW.TrodAll enc Tryz.prog W 0 (fun _ => true) true Tryz.f3.params.toList args.toList ds p := hA0
  rw [Tryz.params3] at hA hval
  obtain ⟨v0, vs0, d0, ds0, p0, q0, hargs, rfl, rfl, h0, r0⟩ := trodAll_cons hA
  obtain ⟨rfl, rfl, rfl⟩ := trodAll_nil r0
  obtain rfl : args = #[v0] := by cases args; simp_all
  obtain ⟨rfl, rfl⟩ := trodVars_none hV
  clear hA0 hval0
  have hlt0 : ∀ x ∈ p0, x.block < W.heap.size := fun x hx => hW'.lt x (by simp [hx])
  have hk0 := h0
  obtain ⟨c0, rfl, hr0, hf0⟩ := Opn.viewC (hval 0 31 v0 rfl rfl) h0
  simp only [List.append_nil] at hW'
  refine (walk W c0 hr0 hf0).mono fun e W' ⟨he, hg⟩ => ?_
  subst he
  exact ⟨_, rfl, _, _, _, [], _, [], hW', (trodAll_cons_mk (shut_bool Tryz.underlying4 _) trodAll_mk0), (trodAll_cons_mk (Below.trod Opn.laidOut (by kernel_rfl) (of_decide_eq_true (by kernel_rfl)) hk0 hg hlt0) trodAll_mk0), rfl, hg.frame _, fun h => by cases h⟩

theorem over : Rows.blobWritesRow.holds Tryz.pinned (OpenSpec.ofChange Rows.blobWritesSpec) :=
  OpenClaim.holds_of_wide 3 Tryz.f3 rfl rfl rfl rfl rfl rfl rfl ⟨rfl, rfl, rfl, rfl, rfl⟩ rfl rfl rfl rfl rfl (by kernel_rfl) Tryz.func3 (by kernel_rfl)
    (of_decide_eq_true (by kernel_rfl)) (by unfold Func.isWrapper; first | (rw [if_pos (by decide +kernel)]; kernel_rfl) | (rw [if_neg (by decide +kernel)]; exact ⟨rfl, rfl⟩))
    (fun os started H enc _ => lifted os started H enc)

/-- The given statement. -/
theorem proved : Rows.BlobWritesSaid :=
  over
#print axioms proved
end Go.Proofs.YtpjenkgimkndaaaGreat.blobWrites
