/-
  The law BlobReads: which content any numbers are, and which any bytes, is what the document says, and what came out does not hang on the numbers that were handed in, for all numbers and all bytes of at most 2048 and 4096.
-/
import Derived.Test.YtpjenkgimkndaaaGreatRtd
import Derived.Test.YtpjenkgimkndaaaGreatSma
import Derived.Test.YtpjenkgimkndaaaGreatRsc
import Derived.Test.YtpjenkgimkndaaaGreatPop
import Derived.Deep.Cut
import Derived.WalkKit
import Derived.ProofKit
import Derived.OpenShut
namespace Go.Proofs.YtpjenkgimkndaaaGreat.blobReads
open Go.ChangeShapes Go.WideShapes Go.ChangeAt Go.RowKit Con Go.Maps Pm Mth
set_option linter.unusedVariables false

theorem own : ownKnob Tryz.prog.godebug = none := by kernel_rfl


theorem own_at {w : World} {base : Nat} {A : Option Addr} {c : Nat} {l : List Int} (h : Own w base .i64 3 A c l) (hl : l ≠ []) : ∃ g cur, A = some ⟨g, 0, none⟩ ∧ base ≤ g ∧ w.heap[g]? = some (.cells cur 3) ∧ l.length ≤ cur.size := by
  rcases h.2 with ⟨_, h0⟩ | ⟨g, cap, cur, hv, hb, hg, hn, hm, hs, _⟩
  · exact absurd (List.length_eq_zero_iff.1 h0) hl
  · injection hv with hA
    exact ⟨g, cur, hA, hb, hg, by omega⟩
theorem own_room (w : World) : Own (w.alloc (.cells #[] 3)) w.heap.size .i64 3 (some ⟨w.heap.size, 0, none⟩) 0 [] :=
  ⟨rfl, .inr ⟨w.heap.size, 0, #[], rfl, Nat.le_refl _, heap_alloc_new w _, Nat.le_refl _, Nat.zero_le _, rfl, rfl⟩⟩
/-- The row that is written over. -/
def GA (w : World) (base M : Nat) (A : Option Addr) (l : List Int) : Prop := l = [] ∨ ∃ g cur, A = some ⟨g, 0, none⟩ ∧ base ≤ g ∧ g < M ∧ w.heap[g]? = some (.cells cur 3) ∧ l.length ≤ cur.size
theorem ga_of {w w' : World} {base : Nat} {A : Option Addr} {c : Nat} {l : List Int} (h : Own w base .i64 3 A c l) (hb : Below w.heap.size w w') : GA w' base w.heap.size A l := by
  by_cases hl : l = []
  · exact .inl hl
  · obtain ⟨g, cur, h1, h2, h3, h4⟩ := own_at h hl
    exact .inr ⟨g, cur, h1, h2, lt_of_block h3, (hb.block g (lt_of_block h3)).trans h3, h4⟩
/-- Two calls of the document's Same. -/
theorem same_two {w : World} {B : Nat} (c d : Cn) (hr : RC w B c) (hd : RC w B d) (hB : B ≤ w.heap.size) (hs : Sm c) (h : c.pl = d.pl) :
    Calls Tryz.prog 15 #[cnv c, cnv d] w fun e w' => e = .returned (.bool true) ∧ Below w.heap.size w w' := rsame_c c d hr hd hB hs true (by simp [h])
set_option maxRecDepth 40000 in
set_option maxHeartbeats 16000000 in
theorem walk (W : World) (A : Option Addr) (c : Nat) (l : List Int) (hr : Rd .i64 W W.heap.size A l) (hc : l.length ≤ c) (hl : l.length ≤ 9223372036854775807) (hx : ∀ x ∈ l, -9223372036854775808 ≤ x ∧ x ≤ 9223372036854775807) (Ab : Option Addr) (cb : Nat) (b : List Int) (hrb : Rd .u8 W W.heap.size Ab b) (hcb : b.length ≤ cb) (hlb : b.length ≤ 9223372036854775807) (hbb : Byt b) : Calls Tryz.prog 4 #[.slice A l.length c, .slice Ab b.length cb] W fun e w' => e = .returned (.bool true) ∧ Below W.heap.size W w' := by
  have HR := Lib.hid hr; have HRb := Lib.hid hrb; have HBy := Lib.hid hbb; have HCb := Lib.hid hcb
  clear hr hrb hx hbb
  go_enter Tryz.func4, Tryz.ntmps4
  go_wp2_with (fail)
  (with_reducible refine (small_b _).mono ?_); rintro e w1 ⟨rfl, hB1⟩
  have HB1 := Lib.hid hB1; clear hB1
  by_cases h1 : 2048 < l.length
  · have h1' : decide ((l.length : Int) > 2048) = true := by simp; omega
    have h1n : decide ((2048 : Int) < l.length) = true := by simp; omega
    have h1m : decide (2048 < l.length) = true := by simpa using h1
    clear h1 hl hlb hc hcb
    go_wp2
    go_ret
    exact ⟨rfl, HB1.out⟩
  · have h1' : decide ((l.length : Int) > 2048) = false := by simp; omega
    have h1n : decide ((2048 : Int) < l.length) = false := by simp; omega
    have h1m : decide (2048 < l.length) = false := by simpa using h1
    have HL : Hid (l.length ≤ 2048) := Lib.hid (by omega)
    clear h1
    by_cases h2 : 4096 < b.length
    · have h2' : decide ((b.length : Int) > 4096) = true := by simp; omega
      have h2n : decide ((4096 : Int) < b.length) = true := by simp; omega
      have h2m : decide (4096 < b.length) = true := by simpa using h2
      clear h2 hl hlb hc hcb
      go_wp2
      go_ret
      exact ⟨rfl, HB1.out⟩
    · have h2' : decide ((b.length : Int) > 4096) = false := by simp; omega
      have h2n : decide ((4096 : Int) < b.length) = false := by simp; omega
      have h2m : decide (4096 < b.length) = false := by simpa using h2
      have HLb : Hid ((b.length : Int) ≤ 4096) := Lib.hid (by omega)
      clear h2 hl hlb hc hcb
      have HO1 := Lib.hid (own_room w1)
      have HR1 : Hid (Rd .i64 (w1.alloc (.cells #[] 3)) W.heap.size A l) := Lib.hid ((HR.out.below HB1.out (Nat.le_refl _)).alloc HB1.out.size _)
      go_wp2_with (at_builtin; refine Pm.wpList_app (K := .i64) (t := 35) (e := 3) Tryz.underlying35 int_info rfl (by omega) rfl (.tmp 26) (.tmp 27) rfl w1.heap.size W.heap.size (some ⟨w1.heap.size, 0, none⟩) 0 [] l A c rfl rfl HO1.out HR1.out (by have := HL.out; simp; omega) (by simp) ?_; intro A2 c2 w2 lm HLm HO2 HS2)
      have HLe : Hid (lm = l) := Lib.hid HLm.out
      have HB2 : Hid (Below W.heap.size W w2) := Lib.hid (HB1.out.trans ((HS2.out.below (fun k hk => by simp [blk] at hk; omega) (by simp) |> fun h : Below w1.heap.size (w1.alloc (.cells #[] 3)) w2 => ((Below.refl _ _).alloc (Nat.le_refl _) _).trans h).mono HB1.out.size))
      have hlm2 : lm.length ≤ 400000 := by rw [HLe.out]; have := HL.out; omega
      have HLmb : Hid (lm.length ≤ 400000) := Lib.hid hlm2
      have HLmi : Hid ((lm.length : Int) ≤ 400000) := Lib.hid (by omega)
      clear HLm HO1 HR1 hlm2
      (with_reducible refine (unflat_any A2 c2 lm _ w2.heap.size (Own.rd HO2.out) (Nat.le_refl _) (Own.cap HO2.out) HLmb.out).mono ?_); rintro e w3 ⟨k, x, rfl, HK, HU, HB3⟩
      have HG4 : Hid (GA (w3.alloc (.cells #[.slice k.aA k.ab.length k.aC, .slice k.uA k.au.length k.uC, .slice k.fA k.fo.length k.fC, .int .i64 k.W, .int .i64 k.H, .slice k.gA k.wl.length k.gC, .int .i64 k.dx, .int .i64 k.dy, .int .i64 k.lx, .int .i64 k.ly] 31)) w1.heap.size w2.heap.size A2 lm) := Lib.hid (ga_of HO2.out (HB3.out.alloc HB3.out.size _))
      have HK4 : Hid (NC (w3.alloc (.cells #[.slice k.aA k.ab.length k.aC, .slice k.uA k.au.length k.uC, .slice k.fA k.fo.length k.fC, .int .i64 k.W, .int .i64 k.H, .slice k.gA k.wl.length k.gC, .int .i64 k.dx, .int .i64 k.dy, .int .i64 k.lx, .int .i64 k.ly] 31)) w2.heap.size k) := Lib.hid (HK.out.kp (kp_below ((Below.refl _ _).alloc (Nat.le_refl _) _)))
      have HC4 : Hid ((w3.alloc (.cells #[.slice k.aA k.ab.length k.aC, .slice k.uA k.au.length k.uC, .slice k.fA k.fo.length k.fC, .int .i64 k.W, .int .i64 k.H, .slice k.gA k.wl.length k.gC, .int .i64 k.dx, .int .i64 k.dy, .int .i64 k.lx, .int .i64 k.ly] 31)).heap[w3.heap.size]? = some (.cells #[.slice k.aA k.ab.length k.aC, .slice k.uA k.au.length k.uC, .slice k.fA k.fo.length k.fC, .int .i64 k.W, .int .i64 k.H, .slice k.gA k.wl.length k.gC, .int .i64 k.dx, .int .i64 k.dy, .int .i64 k.lx, .int .i64 k.ly] 31)) := Lib.hid (heap_alloc_new w3 _)
      have HB4 : Hid (Below W.heap.size W (w3.alloc (.cells #[.slice k.aA k.ab.length k.aC, .slice k.uA k.au.length k.uC, .slice k.fA k.fo.length k.fC, .int .i64 k.W, .int .i64 k.H, .slice k.gA k.wl.length k.gC, .int .i64 k.dx, .int .i64 k.dy, .int .i64 k.lx, .int .i64 k.ly] 31))) := Lib.hid ((HB2.out.trans (HB3.out.mono HB2.out.size)).alloc (HB2.out.trans (HB3.out.mono HB2.out.size)).size _)
      have HP3 : Hid (w2.heap.size ≤ w3.heap.size) := Lib.hid HB3.out.size
      have HM : Hid (W.heap.size ≤ w1.heap.size) := Lib.hid HB1.out.size
      clear HK HB3
      go_wp2_with (fail)
      go_loopg [9] lm.length (fun m s9 wr => ∃ (i : Nat), i ≤ lm.length ∧ m = lm.length - i ∧ s9 = .int .i64 (i : Int) ∧ Hid (Below W.heap.size W wr) ∧ Hid (GA wr w1.heap.size w2.heap.size A2 lm) ∧ Hid (NC wr w2.heap.size k) ∧ Hid (wr.heap[w3.heap.size]? = some (.cells #[.slice k.aA k.ab.length k.aC, .slice k.uA k.au.length k.uC, .slice k.fA k.fo.length k.fC, .int .i64 k.W, .int .i64 k.H, .slice k.gA k.wl.length k.gC, .int .i64 k.dx, .int .i64 k.dy, .int .i64 k.lx, .int .i64 k.ly] 31)))
      case atStart => exact ⟨0, by omega, rfl, rfl, HB4, HG4, HK4, HC4⟩
      case round =>
        clear HB4 HG4 HK4 HC4
        obtain ⟨i, hi, rfl, rfl, HWr, HG, HKr, HCr⟩ := hrel
        by_cases hlt : i < lm.length
        · have hkl' : (i : Int) < lm.length := by omega
          have hkb : (i : Int) ≤ 1000000 := by have := HLmi.out; omega
          obtain ⟨g, cur, hA, hgb, hgM, hgc, hgn⟩ : ∃ g cur, A2 = some ⟨g, 0, none⟩ ∧ w1.heap.size ≤ g ∧ g < w2.heap.size ∧ wr.heap[g]? = some (.cells cur 3) ∧ lm.length ≤ cur.size := by
            rcases HG.out with h | h
            · rw [h] at hlt; simp at hlt
            · exact h
          obtain ⟨v, hv⟩ : ∃ v, cur[i]? = some v := ⟨_, Array.getElem?_eq_getElem (by omega)⟩
          have HA := Lib.hid hA
          have hz : wr.cell? ⟨g, i, none⟩ = some v := (cellOf' hgc i).trans hv
          have fz := frozOf1 hgc i
          have HN : Hid (GA (wr.setCell ⟨g, i, none⟩ (.int .i64 (-7))) w1.heap.size w2.heap.size A2 lm) := Lib.hid (.inr ⟨g, _, hA, hgb, hgM, heap_setCell_same _ g i _ 3 _ hgc, by simpa using hgn⟩)
          have HKn : Hid (NC (wr.setCell ⟨g, i, none⟩ (.int .i64 (-7))) w2.heap.size k) := Lib.hid (HKr.out.kp ⟨by simp, fun j hj hn => heap_setCell_other _ _ _ _ (fun e => hn (e ▸ hgM))⟩)
          have HCn : Hid ((wr.setCell ⟨g, i, none⟩ (.int .i64 (-7))).heap[w3.heap.size]? = some (.cells #[.slice k.aA k.ab.length k.aC, .slice k.uA k.au.length k.uC, .slice k.fA k.fo.length k.fC, .int .i64 k.W, .int .i64 k.H, .slice k.gA k.wl.length k.gC, .int .i64 k.dx, .int .i64 k.dy, .int .i64 k.lx, .int .i64 k.ly] 31)) := Lib.hid ((heap_setCell_other _ _ _ _ (by have := HP3.out; simp; omega)).trans HCr.out)
          have HWn : Hid (Below W.heap.size W (wr.setCell ⟨g, i, none⟩ (.int .i64 (-7)))) := Lib.hid (HWr.out.setCell (p := ⟨g, i, none⟩) (Nat.le_trans HM.out hgb) _)
          have hgl := lt_of_block hgc
          have HI : Hid (i + 1 ≤ lm.length) := Lib.hid hlt
          clear hA hgb hgM hgc hgn hv
          rw [HA.out]
          go_wp2_with (fail)
          rw [← HA.out]
          go_roundg (lm.length - (i + 1))
          case measure => omega
          case rel => exact ⟨i + 1, HI.out, rfl, by go_num, HWn, HN, HKn, HCn⟩
        · have hkl' : decide ((i : Int) < lm.length) = false := by simp; omega
          have hkl2 : decide (i < lm.length) = false := by simpa using hlt
          have HQr := Lib.hid HKr.out.rc
          have HPr : Hid (w3.heap.size < wr.heap.size) := Lib.hid (lt_of_block HCr.out)
          have HRr : Hid (Rd .i64 wr W.heap.size A l) := Lib.hid (HR.out.below HWr.out (Nat.le_refl _))
          have HRbr : Hid (Rd .u8 wr W.heap.size Ab b) := Lib.hid (HRb.out.below HWr.out (Nat.le_refl _))
          clear hlt hi
          go_wp2_with (fail)
          clear HG HKr
          (with_reducible refine (o_unflat A c l _ W.heap.size HRr.out HWr.out.size (by have := HL.out; omega)).mono ?_); rintro e w5 ⟨k2, x2, rfl, HK5, HU2, HB5⟩
          have hux := UnOk.same HLe.out HU.out HU2.out
          obtain ⟨rfl, hpl⟩ := hux
          have HPl := Lib.hid hpl
          have HSk := Lib.hid (UnOk.sm HU.out (by have := HLe.out; have := HL.out; rw [HLe.out]; omega))
          clear hpl HU HU2
          have HD5 : Hid (Below wr.heap.size wr (w5.alloc (.cells #[.slice k2.aA k2.ab.length k2.aC, .slice k2.uA k2.au.length k2.uC, .slice k2.fA k2.fo.length k2.fC, .int .i64 k2.W, .int .i64 k2.H, .slice k2.gA k2.wl.length k2.gC, .int .i64 k2.dx, .int .i64 k2.dy, .int .i64 k2.lx, .int .i64 k2.ly] 31))) := Lib.hid (HB5.out.alloc HB5.out.size _)
          have HC5 : Hid ((w5.alloc (.cells #[.slice k2.aA k2.ab.length k2.aC, .slice k2.uA k2.au.length k2.uC, .slice k2.fA k2.fo.length k2.fC, .int .i64 k2.W, .int .i64 k2.H, .slice k2.gA k2.wl.length k2.gC, .int .i64 k2.dx, .int .i64 k2.dy, .int .i64 k2.lx, .int .i64 k2.ly] 31)).heap[w5.heap.size]? = some (.cells #[.slice k2.aA k2.ab.length k2.aC, .slice k2.uA k2.au.length k2.uC, .slice k2.fA k2.fo.length k2.fC, .int .i64 k2.W, .int .i64 k2.H, .slice k2.gA k2.wl.length k2.gC, .int .i64 k2.dx, .int .i64 k2.dy, .int .i64 k2.lx, .int .i64 k2.ly] 31)) := Lib.hid (heap_alloc_new w5 _)
          have HQ5 : Hid (RC (w5.alloc (.cells #[.slice k2.aA k2.ab.length k2.aC, .slice k2.uA k2.au.length k2.uC, .slice k2.fA k2.fo.length k2.fC, .int .i64 k2.W, .int .i64 k2.H, .slice k2.gA k2.wl.length k2.gC, .int .i64 k2.dx, .int .i64 k2.dy, .int .i64 k2.lx, .int .i64 k2.ly] 31)) (w5.alloc (.cells #[.slice k2.aA k2.ab.length k2.aC, .slice k2.uA k2.au.length k2.uC, .slice k2.fA k2.fo.length k2.fC, .int .i64 k2.W, .int .i64 k2.H, .slice k2.gA k2.wl.length k2.gC, .int .i64 k2.dx, .int .i64 k2.dy, .int .i64 k2.lx, .int .i64 k2.ly] 31)).heap.size k2) := Lib.hid ((HK5.out.rc.below ((Below.refl _ _).alloc (Nat.le_refl _) _) (Nat.le_refl _)).more (by simp))
          have HE5 : Hid (Below W.heap.size W (w5.alloc (.cells #[.slice k2.aA k2.ab.length k2.aC, .slice k2.uA k2.au.length k2.uC, .slice k2.fA k2.fo.length k2.fC, .int .i64 k2.W, .int .i64 k2.H, .slice k2.gA k2.wl.length k2.gC, .int .i64 k2.dx, .int .i64 k2.dy, .int .i64 k2.lx, .int .i64 k2.ly] 31))) := Lib.hid (HWr.out.trans (HD5.out.mono HWr.out.size))
          go_wp2_with (fail)
          generalize hP5 : w5.heap.size = P5 at *
          generalize w5.alloc (.cells #[.slice k2.aA k2.ab.length k2.aC, .slice k2.uA k2.au.length k2.uC, .slice k2.fA k2.fo.length k2.fC, .int .i64 k2.W, .int .i64 k2.H, .slice k2.gA k2.wl.length k2.gC, .int .i64 k2.dx, .int .i64 k2.dy, .int .i64 k2.lx, .int .i64 k2.ly] 31) = v5 at *
          clear hP5 HB5
          (with_reducible refine (dec_p Ab cb b (HRb.out.below HE5.out (Nat.le_refl _)) HE5.out.size HBy.out HCb.out HLb.out).mono ?_); rintro e w6 ⟨kx, er, rfl, HQ6, HX6, HB6⟩
          have HD6 : Hid (Below v5.heap.size v5 (w6.alloc (.cells #[.slice kx.aA kx.ab.length kx.aC, .slice kx.uA kx.au.length kx.uC, .slice kx.fA kx.fo.length kx.fC, .int .i64 kx.W, .int .i64 kx.H, .slice kx.gA kx.wl.length kx.gC, .int .i64 kx.dx, .int .i64 kx.dy, .int .i64 kx.lx, .int .i64 kx.ly] 31))) := Lib.hid (HB6.out.alloc HB6.out.size _)
          have HC6 : Hid ((w6.alloc (.cells #[.slice kx.aA kx.ab.length kx.aC, .slice kx.uA kx.au.length kx.uC, .slice kx.fA kx.fo.length kx.fC, .int .i64 kx.W, .int .i64 kx.H, .slice kx.gA kx.wl.length kx.gC, .int .i64 kx.dx, .int .i64 kx.dy, .int .i64 kx.lx, .int .i64 kx.ly] 31)).heap[w6.heap.size]? = some (.cells #[.slice kx.aA kx.ab.length kx.aC, .slice kx.uA kx.au.length kx.uC, .slice kx.fA kx.fo.length kx.fC, .int .i64 kx.W, .int .i64 kx.H, .slice kx.gA kx.wl.length kx.gC, .int .i64 kx.dx, .int .i64 kx.dy, .int .i64 kx.lx, .int .i64 kx.ly] 31)) := Lib.hid (heap_alloc_new w6 _)
          have HR6 : Hid (RC (w6.alloc (.cells #[.slice kx.aA kx.ab.length kx.aC, .slice kx.uA kx.au.length kx.uC, .slice kx.fA kx.fo.length kx.fC, .int .i64 kx.W, .int .i64 kx.H, .slice kx.gA kx.wl.length kx.gC, .int .i64 kx.dx, .int .i64 kx.dy, .int .i64 kx.lx, .int .i64 kx.ly] 31)) (w6.alloc (.cells #[.slice kx.aA kx.ab.length kx.aC, .slice kx.uA kx.au.length kx.uC, .slice kx.fA kx.fo.length kx.fC, .int .i64 kx.W, .int .i64 kx.H, .slice kx.gA kx.wl.length kx.gC, .int .i64 kx.dx, .int .i64 kx.dy, .int .i64 kx.lx, .int .i64 kx.ly] 31)).heap.size kx) := Lib.hid ((HQ6.out.below ((Below.refl _ _).alloc (Nat.le_refl _) _) (Nat.le_refl _)).more (by simp))
          have HE6 : Hid (Below W.heap.size W (w6.alloc (.cells #[.slice kx.aA kx.ab.length kx.aC, .slice kx.uA kx.au.length kx.uC, .slice kx.fA kx.fo.length kx.fC, .int .i64 kx.W, .int .i64 kx.H, .slice kx.gA kx.wl.length kx.gC, .int .i64 kx.dx, .int .i64 kx.dy, .int .i64 kx.lx, .int .i64 kx.ly] 31))) := Lib.hid (HE5.out.trans (HD6.out.mono HE5.out.size))
          go_wp2_with (fail)
          generalize hP6 : w6.heap.size = P6 at *
          generalize w6.alloc (.cells #[.slice kx.aA kx.ab.length kx.aC, .slice kx.uA kx.au.length kx.uC, .slice kx.fA kx.fo.length kx.fC, .int .i64 kx.W, .int .i64 kx.H, .slice kx.gA kx.wl.length kx.gC, .int .i64 kx.dx, .int .i64 kx.dy, .int .i64 kx.lx, .int .i64 kx.ly] 31) = v6 at *
          clear hP6 HB6 HQ6
          (with_reducible refine (dec_d Ab cb b (HRb.out.below HE6.out (Nat.le_refl _)) HE6.out.size HBy.out HCb.out HLb.out).mono ?_); rintro e w7 ⟨ky, er2, rfl, HQ7, HX7, HB7⟩
          obtain ⟨rfl, hpl⟩ := DcOk.same HLb.out HX6.out HX7.out
          have HPx := Lib.hid hpl
          have HSx := Lib.hid (DcOk.sm HX6.out HLb.out)
          clear hpl HX6 HX7
          have HD7 : Hid (Below v6.heap.size v6 (w7.alloc (.cells #[.slice ky.aA ky.ab.length ky.aC, .slice ky.uA ky.au.length ky.uC, .slice ky.fA ky.fo.length ky.fC, .int .i64 ky.W, .int .i64 ky.H, .slice ky.gA ky.wl.length ky.gC, .int .i64 ky.dx, .int .i64 ky.dy, .int .i64 ky.lx, .int .i64 ky.ly] 31))) := Lib.hid (HB7.out.alloc HB7.out.size _)
          have HC7 : Hid ((w7.alloc (.cells #[.slice ky.aA ky.ab.length ky.aC, .slice ky.uA ky.au.length ky.uC, .slice ky.fA ky.fo.length ky.fC, .int .i64 ky.W, .int .i64 ky.H, .slice ky.gA ky.wl.length ky.gC, .int .i64 ky.dx, .int .i64 ky.dy, .int .i64 ky.lx, .int .i64 ky.ly] 31)).heap[w7.heap.size]? = some (.cells #[.slice ky.aA ky.ab.length ky.aC, .slice ky.uA ky.au.length ky.uC, .slice ky.fA ky.fo.length ky.fC, .int .i64 ky.W, .int .i64 ky.H, .slice ky.gA ky.wl.length ky.gC, .int .i64 ky.dx, .int .i64 ky.dy, .int .i64 ky.lx, .int .i64 ky.ly] 31)) := Lib.hid (heap_alloc_new w7 _)
          have HR7 : Hid (RC (w7.alloc (.cells #[.slice ky.aA ky.ab.length ky.aC, .slice ky.uA ky.au.length ky.uC, .slice ky.fA ky.fo.length ky.fC, .int .i64 ky.W, .int .i64 ky.H, .slice ky.gA ky.wl.length ky.gC, .int .i64 ky.dx, .int .i64 ky.dy, .int .i64 ky.lx, .int .i64 ky.ly] 31)) (w7.alloc (.cells #[.slice ky.aA ky.ab.length ky.aC, .slice ky.uA ky.au.length ky.uC, .slice ky.fA ky.fo.length ky.fC, .int .i64 ky.W, .int .i64 ky.H, .slice ky.gA ky.wl.length ky.gC, .int .i64 ky.dx, .int .i64 ky.dy, .int .i64 ky.lx, .int .i64 ky.ly] 31)).heap.size ky) := Lib.hid ((HQ7.out.below ((Below.refl _ _).alloc (Nat.le_refl _) _) (Nat.le_refl _)).more (by simp))
          have HE7 : Hid (Below W.heap.size W (w7.alloc (.cells #[.slice ky.aA ky.ab.length ky.aC, .slice ky.uA ky.au.length ky.uC, .slice ky.fA ky.fo.length ky.fC, .int .i64 ky.W, .int .i64 ky.H, .slice ky.gA ky.wl.length ky.gC, .int .i64 ky.dx, .int .i64 ky.dy, .int .i64 ky.lx, .int .i64 ky.ly] 31))) := Lib.hid (HE6.out.trans (HD7.out.mono HE6.out.size))
          have HV1 := Lib.hid (HD5.out.trans (HD6.out.mono HD5.out.size))
          have HV2 := Lib.hid (HV1.out.trans (HD7.out.mono HV1.out.size))
          have HV3 := Lib.hid (HD6.out.trans (HD7.out.mono HD6.out.size))
          have HQa : Hid (RC (w7.alloc (.cells #[.slice ky.aA ky.ab.length ky.aC, .slice ky.uA ky.au.length ky.uC, .slice ky.fA ky.fo.length ky.fC, .int .i64 ky.W, .int .i64 ky.H, .slice ky.gA ky.wl.length ky.gC, .int .i64 ky.dx, .int .i64 ky.dy, .int .i64 ky.lx, .int .i64 ky.ly] 31)) (w7.alloc (.cells #[.slice ky.aA ky.ab.length ky.aC, .slice ky.uA ky.au.length ky.uC, .slice ky.fA ky.fo.length ky.fC, .int .i64 ky.W, .int .i64 ky.H, .slice ky.gA ky.wl.length ky.gC, .int .i64 ky.dx, .int .i64 ky.dy, .int .i64 ky.lx, .int .i64 ky.ly] 31)).heap.size k) := Lib.hid ((HQr.out.below HV2.out (Nat.le_refl _)).more HV2.out.size)
          have HQb : Hid (RC (w7.alloc (.cells #[.slice ky.aA ky.ab.length ky.aC, .slice ky.uA ky.au.length ky.uC, .slice ky.fA ky.fo.length ky.fC, .int .i64 ky.W, .int .i64 ky.H, .slice ky.gA ky.wl.length ky.gC, .int .i64 ky.dx, .int .i64 ky.dy, .int .i64 ky.lx, .int .i64 ky.ly] 31)) (w7.alloc (.cells #[.slice ky.aA ky.ab.length ky.aC, .slice ky.uA ky.au.length ky.uC, .slice ky.fA ky.fo.length ky.fC, .int .i64 ky.W, .int .i64 ky.H, .slice ky.gA ky.wl.length ky.gC, .int .i64 ky.dx, .int .i64 ky.dy, .int .i64 ky.lx, .int .i64 ky.ly] 31)).heap.size k2) := Lib.hid ((HQ5.out.below HV3.out (Nat.le_refl _)).more HV3.out.size)
          have HQc : Hid (RC (w7.alloc (.cells #[.slice ky.aA ky.ab.length ky.aC, .slice ky.uA ky.au.length ky.uC, .slice ky.fA ky.fo.length ky.fC, .int .i64 ky.W, .int .i64 ky.H, .slice ky.gA ky.wl.length ky.gC, .int .i64 ky.dx, .int .i64 ky.dy, .int .i64 ky.lx, .int .i64 ky.ly] 31)) (w7.alloc (.cells #[.slice ky.aA ky.ab.length ky.aC, .slice ky.uA ky.au.length ky.uC, .slice ky.fA ky.fo.length ky.fC, .int .i64 ky.W, .int .i64 ky.H, .slice ky.gA ky.wl.length ky.gC, .int .i64 ky.dx, .int .i64 ky.dy, .int .i64 ky.lx, .int .i64 ky.ly] 31)).heap.size kx) := Lib.hid ((HR6.out.below HD7.out (Nat.le_refl _)).more HD7.out.size)
          have HC1 := Lib.hid (hkeep HV2.out HCr.out); have HC2 := Lib.hid (hkeep HV3.out HC5.out); have HC3 := Lib.hid (hkeep HD7.out HC6.out)
          have z1 := cellOf' HC1.out; have z2 := cellOf' HC2.out; have z3 := cellOf' HC3.out; have z4 := cellOf' HC7.out
          have l1 := lt_of_block HC1.out; have l2 := lt_of_block HC2.out; have l3 := lt_of_block HC3.out; have l4 := lt_of_block HC7.out
          have hxx : (x2 == x2) = true := by simp
          have hee : (er2 == er2) = true := by simp
          clear HD5 HC5 HQ5 HE5 HD6 HC6 HR6 HE6 HV1 HV2 HV3 HQr HWr HCr HRr HRbr
          go_wp2_with (fail)
          generalize hP7 : w7.heap.size = P7 at *
          generalize w7.alloc (.cells #[.slice ky.aA ky.ab.length ky.aC, .slice ky.uA ky.au.length ky.uC, .slice ky.fA ky.fo.length ky.fC, .int .i64 ky.W, .int .i64 ky.H, .slice ky.gA ky.wl.length ky.gC, .int .i64 ky.dx, .int .i64 ky.dy, .int .i64 ky.lx, .int .i64 ky.ly] 31) = v7 at *
          clear hP7 HB7 HQ7
          (with_reducible refine (same_two k k2 HQa.out HQb.out (Nat.le_refl _) HSk.out HPl.out).mono ?_); rintro e w8 ⟨rfl, hB8⟩
          have HB8 := Lib.hid hB8; clear hB8
          have HC18 := Lib.hid (hkeep HB8.out HC3.out); have HC28 := Lib.hid (hkeep HB8.out HC7.out)
          clear z1 z2 z3 z4 l1 l2 l3 l4
          have z3 := cellOf' HC18.out; have z4 := cellOf' HC28.out
          have l3 := lt_of_block HC18.out; have l4 := lt_of_block HC28.out
          go_wp2_with (fail)
          (with_reducible refine (same_two kx ky (HQc.out.below HB8.out (Nat.le_refl _)) (HR7.out.below HB8.out (Nat.le_refl _)) HB8.out.size HSx.out HPx.out).mono ?_); rintro e w9 ⟨rfl, hB9⟩
          have HB9 := Lib.hid hB9; clear hB9
          go_wp2
          go_ret
          have q1 := HE7.out.trans (HB8.out.mono HE7.out.size)
          exact ⟨by simp, q1.trans (HB9.out.mono q1.size)⟩


set_option maxRecDepth 100000 in
theorem lifted (os : Os) (started : os.Started) (H : Type) (enc : TypeId × Value → H) :
    ReturnsInHanded {} Tryz.checked os 4 .any (Rows.blobReadsSpec.pre6 enc Tryz.prog Tryz.f4 Rows.blobReadsRow.domain false) (Rows.blobReadsSpec.post enc Tryz.prog Tryz.f4 false true false false) := by
  refine returnsInHanded_of_change (C := Tryz.checked) own started (by kernel_rfl) Tryz.func4
    (ChangeSpec.witness6 (enc := enc) (C := Tryz.checked) false ⟨#[], #[.slice none 0 0, .slice none 0 0], []⟩ 8 (by kernel_rfl) (by kernel_rfl) (by kernel_rfl) (by kernel_rfl)) ?_
  intro W base args ds gs before hval0 hW hcnd _
  have hval : ∀ (j : Nat) t v, Tryz.f4.params[j]? = some t → args[j]? = some v → Value.okWide Tryz.prog W .any base t v := hval0
  have hW' := hW
  obtain ⟨p, q, hA0, hV, rfl, hfz, hnd⟩ := hW
  have hA : DataW.TrodAll enc Tryz.prog W 0 (fun _ => true) true Tryz.f4.params.toList args.toList ds p := hA0
  rw [Tryz.params4] at hA hval
  obtain ⟨v0, vs0, d0, ds0, p0, q0, hargs, rfl, rfl, h0, r0⟩ := trodAll_cons hA
  obtain ⟨v1, vs1, d1, ds1, p1, q1, rfl, rfl, rfl, h1, r1⟩ := trodAll_cons r0
  obtain ⟨rfl, rfl, rfl⟩ := trodAll_nil r1
  obtain rfl : args = #[v0, v1] := by cases args; simp_all
  obtain ⟨rfl, rfl⟩ := trodVars_none hV
  clear hA0 hval0
  have hlt0 : ∀ x ∈ p0, x.block < W.heap.size := fun x hx => hW'.lt x (by simp [hx])
  have hk0 := h0
  obtain ⟨A0, c0, l0, rfl, hr0, hc0, hl0, hx0⟩ := Pop.viewI (hval 0 35 v0 rfl rfl) h0 hlt0
  have hlt1 : ∀ x ∈ p1, x.block < W.heap.size := fun x hx => hW'.lt x (by simp [hx])
  have hk1 := h1
  obtain ⟨A1, c1, l1, rfl, hr1, hc1, hl1, hx1⟩ := Pop.viewB (hval 1 38 v1 rfl rfl) h1 hlt1
  simp only [List.append_nil] at hW'
  refine (walk W A0 c0 l0 hr0 hc0 hl0 hx0 A1 c1 l1 hr1 hc1 hl1 hx1).mono fun e W' ⟨he, hg⟩ => ?_
  subst he
  exact ⟨_, rfl, _, _, _, [], _, [], hW', (trodAll_cons_mk (shut_bool Tryz.underlying4 _) trodAll_mk0), (trodAll_cons_mk (Below.trod Pop.laidOut (by kernel_rfl) (of_decide_eq_true (by kernel_rfl)) hk0 hg hlt0) (trodAll_cons_mk (Below.trod Pop.laidOut (by kernel_rfl) (of_decide_eq_true (by kernel_rfl)) hk1 hg hlt1) trodAll_mk0)), rfl, hg.frame _, fun h => by cases h⟩

theorem over : Rows.blobReadsRow.holds Tryz.pinned (OpenSpec.ofChange Rows.blobReadsSpec) :=
  OpenClaim.holds_of_wide 4 Tryz.f4 rfl rfl rfl rfl rfl rfl rfl ⟨rfl, rfl, rfl, rfl, rfl⟩ rfl rfl rfl rfl rfl (by kernel_rfl) Tryz.func4 (by kernel_rfl)
    (of_decide_eq_true (by kernel_rfl)) (by unfold Func.isWrapper; first | (rw [if_pos (by decide +kernel)]; kernel_rfl) | (rw [if_neg (by decide +kernel)]; exact ⟨rfl, rfl⟩))
    (fun os started H enc _ => lifted os started H enc)

/-- The given statement. -/
theorem proved : Rows.BlobReadsSaid :=
  over
#print axioms proved
end Go.Proofs.YtpjenkgimkndaaaGreat.blobReads
