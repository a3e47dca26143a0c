/-
  The law BlobBack: content and its bytes are each other's, for every two contents and all bytes.
-/
import Derived.Test.YtpjenkgimkndaaaGreatBck
import Derived.Test.YtpjenkgimkndaaaGreatOpn
import Derived.Test.YtpjenkgimkndaaaGreatPop
import Derived.Deep.Cut
import Derived.WalkKit
import Derived.ProofKit
import Derived.OpenShut
namespace Go.Proofs.YtpjenkgimkndaaaGreat.blobBack
open Go.ChangeShapes Go.WideShapes Go.ChangeAt Go.RowKit Con Go.Maps Pm Mth
set_option linter.unusedVariables false

theorem own : ownKnob Tryz.prog.godebug = none := by kernel_rfl

set_option maxRecDepth 40000 in
set_option maxHeartbeats 64000000 in
theorem walk (W : World) (c : Cn) (hr : RC W W.heap.size c) (hf : Opn.FitC c) (d : Cn) (hq : RC W W.heap.size d) (hg : Opn.FitC d) (A : Option Addr) (cb : Nat) (l : List Int) (hrl : Rd .u8 W W.heap.size A l) (hcl : l.length ≤ cb) (hll : l.length ≤ 9223372036854775807) (hbl : Byt l) :
    Calls Tryz.prog 5 #[cnv c, cnv d, .slice A l.length cb] W fun e w' => e = .returned (.bool true) ∧ Below W.heap.size W w' := by
  obtain ⟨x, hx⟩ := bex (FewP c)
  obtain ⟨y, hy⟩ := bex (FewP d)
  have hb0 : Below W.heap.size W ((W.alloc (.cells #[.slice c.aA c.ab.length c.aC, .slice c.uA c.au.length c.uC, .slice c.fA c.fo.length c.fC, .int .i64 c.W, .int .i64 c.H, .slice c.gA c.wl.length c.gC, .int .i64 c.dx, .int .i64 c.dy, .int .i64 c.lx, .int .i64 c.ly] 31)).alloc (.cells #[.slice d.aA d.ab.length d.aC, .slice d.uA d.au.length d.uC, .slice d.fA d.fo.length d.fC, .int .i64 d.W, .int .i64 d.H, .slice d.gA d.wl.length d.gC, .int .i64 d.dx, .int .i64 d.dy, .int .i64 d.lx, .int .i64 d.ly] 31)) := by go_grown
  have HW0 := Lib.hid hb0
  have HR0 := Lib.hid (hr.below hb0 (Nat.le_refl _)); have HQ0 := Lib.hid (hq.below hb0 (Nat.le_refl _)); have HL0 := Lib.hid (hrl.below hb0 (Nat.le_refl _))
  have HF := Lib.hid hf; have HG := Lib.hid hg; have HX := Lib.hid hx; have HY := Lib.hid hy; have HCl := Lib.hid hcl; have HBl := Lib.hid hbl
  have hll' : (l.length : Int) ≤ 9223372036854775807 := by omega
  have HC0 : Hid (((W.alloc (.cells #[.slice c.aA c.ab.length c.aC, .slice c.uA c.au.length c.uC, .slice c.fA c.fo.length c.fC, .int .i64 c.W, .int .i64 c.H, .slice c.gA c.wl.length c.gC, .int .i64 c.dx, .int .i64 c.dy, .int .i64 c.lx, .int .i64 c.ly] 31)).alloc (.cells #[.slice d.aA d.ab.length d.aC, .slice d.uA d.au.length d.uC, .slice d.fA d.fo.length d.fC, .int .i64 d.W, .int .i64 d.H, .slice d.gA d.wl.length d.gC, .int .i64 d.dx, .int .i64 d.dy, .int .i64 d.lx, .int .i64 d.ly] 31)).heap[W.heap.size]? = some (.cells #[.slice c.aA c.ab.length c.aC, .slice c.uA c.au.length c.uC, .slice c.fA c.fo.length c.fC, .int .i64 c.W, .int .i64 c.H, .slice c.gA c.wl.length c.gC, .int .i64 c.dx, .int .i64 c.dy, .int .i64 c.lx, .int .i64 c.ly] 31)) := Lib.hid ((Below.heap_alloc _ _ _ (by simp)).trans (heap_alloc_new W _))
  have HD0 : Hid (((W.alloc (.cells #[.slice c.aA c.ab.length c.aC, .slice c.uA c.au.length c.uC, .slice c.fA c.fo.length c.fC, .int .i64 c.W, .int .i64 c.H, .slice c.gA c.wl.length c.gC, .int .i64 c.dx, .int .i64 c.dy, .int .i64 c.lx, .int .i64 c.ly] 31)).alloc (.cells #[.slice d.aA d.ab.length d.aC, .slice d.uA d.au.length d.uC, .slice d.fA d.fo.length d.fC, .int .i64 d.W, .int .i64 d.H, .slice d.gA d.wl.length d.gC, .int .i64 d.dx, .int .i64 d.dy, .int .i64 d.lx, .int .i64 d.ly] 31)).heap[W.heap.size + 1]? = some (.cells #[.slice d.aA d.ab.length d.aC, .slice d.uA d.au.length d.uC, .slice d.fA d.fo.length d.fC, .int .i64 d.W, .int .i64 d.H, .slice d.gA d.wl.length d.gC, .int .i64 d.dx, .int .i64 d.dy, .int .i64 d.lx, .int .i64 d.ly] 31)) := Lib.hid (by have := heap_alloc_new (W.alloc (.cells #[.slice c.aA c.ab.length c.aC, .slice c.uA c.au.length c.uC, .slice c.fA c.fo.length c.fC, .int .i64 c.W, .int .i64 c.H, .slice c.gA c.wl.length c.gC, .int .i64 c.dx, .int .i64 c.dy, .int .i64 c.lx, .int .i64 c.ly] 31)) (.cells #[.slice d.aA d.ab.length d.aC, .slice d.uA d.au.length d.uC, .slice d.fA d.fo.length d.fC, .int .i64 d.W, .int .i64 d.H, .slice d.gA d.wl.length d.gC, .int .i64 d.dx, .int .i64 d.dy, .int .i64 d.lx, .int .i64 d.ly] 31); simpa using this)
  clear hb0 hr hf hx hy hq hg hrl hcl hll hbl
  go_enter Tryz.func5, Tryz.ntmps5
  go_wp2_with (fail)
  generalize (W.alloc (.cells #[.slice c.aA c.ab.length c.aC, .slice c.uA c.au.length c.uC, .slice c.fA c.fo.length c.fC, .int .i64 c.W, .int .i64 c.H, .slice c.gA c.wl.length c.gC, .int .i64 c.dx, .int .i64 c.dy, .int .i64 c.lx, .int .i64 c.ly] 31)).alloc (.cells #[.slice d.aA d.ab.length d.aC, .slice d.uA d.au.length d.uC, .slice d.fA d.fo.length d.fC, .int .i64 d.W, .int .i64 d.H, .slice d.gA d.wl.length d.gC, .int .i64 d.dx, .int .i64 d.dy, .int .i64 d.lx, .int .i64 d.ly] 31) = w0 at *
  (with_reducible refine (small_b _).mono ?_); rintro e w1 ⟨rfl, hB1⟩
  have HB1 := Lib.hid hB1; clear hB1
  have HW1 : Hid (Below W.heap.size W w1) := Lib.hid (HW0.out.trans ((HB1.out).mono HW0.out.size)); have HC1 := Lib.hid (hkeep (HB1.out) HC0.out); have HD1 := Lib.hid (hkeep (HB1.out) HD0.out); have HR1 := Lib.hid (HR0.out.below (HB1.out) HW0.out.size); have HQ1 := Lib.hid (HQ0.out.below (HB1.out) HW0.out.size); have HL1 := Lib.hid (HL0.out.below (HB1.out) HW0.out.size)
  have hc := cellOf' HC1.out; have lc := lt_of_block HC1.out
  go_wp2_with (fail)
  (with_reducible refine (few_c c HR1.out HW1.out.size x HX.out).mono ?_); rintro e w2 ⟨rfl, hB2⟩
  have HB2 := Lib.hid hB2; clear hB2 hc lc
  have HW2 : Hid (Below W.heap.size W w2) := Lib.hid (HW1.out.trans ((HB2.out).mono HW1.out.size)); have HC2 := Lib.hid (hkeep (HB2.out) HC1.out); have HD2 := Lib.hid (hkeep (HB2.out) HD1.out); have HR2 := Lib.hid (HR1.out.below (HB2.out) HW1.out.size); have HQ2 := Lib.hid (HQ1.out.below (HB2.out) HW1.out.size); have HL2 := Lib.hid (HL1.out.below (HB2.out) HW1.out.size)
  cases x with
  | false =>
    go_wp2
    go_ret
    exact ⟨rfl, HW2.out⟩
  | true =>
    have HFw := Lib.hid (HX.out.1 rfl)
    have hd := cellOf' HD2.out; have ld := lt_of_block HD2.out
    go_wp2_with (fail)
    (with_reducible refine (few_c d HQ2.out HW2.out.size y HY.out).mono ?_); rintro e w3 ⟨rfl, hB3⟩
    have HB3 := Lib.hid hB3; clear hB3 hd ld
    have HW3 : Hid (Below W.heap.size W w3) := Lib.hid (HW2.out.trans ((HB3.out).mono HW2.out.size)); have HC3 := Lib.hid (hkeep (HB3.out) HC2.out); have HD3 := Lib.hid (hkeep (HB3.out) HD2.out); have HR3 := Lib.hid (HR2.out.below (HB3.out) HW2.out.size); have HQ3 := Lib.hid (HQ2.out.below (HB3.out) HW2.out.size); have HL3 := Lib.hid (HL2.out.below (HB3.out) HW2.out.size)
    cases y with
    | false =>
      go_wp2
      go_ret
      exact ⟨rfl, HW3.out⟩
    | true =>
      have HGw := Lib.hid (HY.out.1 rfl)
      by_cases hlen : (l.length : Int) > 4096
      · have hlen2 : decide ((l.length : Int) > 4096) = true := by simpa using hlen
        have hlen3 : (4096 : Int) < l.length := by omega
        go_wp2
        go_ret
        exact ⟨rfl, HW3.out⟩
      · have hlen' : decide ((l.length : Int) > 4096) = false := by simpa using hlen
        have hl4 : (l.length : Int) ≤ 4096 := by omega
        have HL4k := Lib.hid hl4
        have HLc := Lib.hid (few_len HFw.out); have HLd := Lib.hid (few_len HGw.out)
        have HFc := Lib.hid (Opn.fit_all HF.out HFw.out.sm); have HFd := Lib.hid (Opn.fit_all HG.out HGw.out.sm)
        clear hlen
        have hc := cellOf' HC3.out; have lc := lt_of_block HC3.out
        go_wp2_with (fail)
        (with_reducible refine (encode_c c HR3.out HW3.out.size HFw.out.sm (fun _ => HFc.out) (by have := HLc.out; omega)).mono ?_); rintro e w4 ⟨lx, Ax, cx, ex, rfl, HH4, HO4, HB4⟩
        clear hc lc
        have HW4 : Hid (Below W.heap.size W w4) := Lib.hid (HW3.out.trans ((HB4.out).mono HW3.out.size)); have HC4 := Lib.hid (hkeep (HB4.out) HC3.out); have HD4 := Lib.hid (hkeep (HB4.out) HD3.out); have HR4 := Lib.hid (HR3.out.below (HB4.out) HW3.out.size); have HQ4 := Lib.hid (HQ3.out.below (HB4.out) HW3.out.size); have HL4 := Lib.hid (HL3.out.below (HB4.out) HW3.out.size)
        have HRx4 := Lib.hid (Own.rd HO4.out); have HCx := Lib.hid (Own.cap HO4.out)
        have hd := cellOf' HD4.out; have ld := lt_of_block HD4.out
        go_wp2_with (fail)
        (with_reducible refine (encode_c d HQ4.out HW4.out.size HGw.out.sm (fun _ => HFd.out) (by have := HLd.out; omega)).mono ?_); rintro e w5 ⟨ly, Ay, cy, ey, rfl, HH5, HO5, HB5⟩
        clear hd ld
        have HW5 : Hid (Below W.heap.size W w5) := Lib.hid (HW4.out.trans ((HB5.out).mono HW4.out.size)); have HC5 := Lib.hid (hkeep (HB5.out) HC4.out); have HD5 := Lib.hid (hkeep (HB5.out) HD4.out); have HR5 := Lib.hid (HR4.out.below (HB5.out) HW4.out.size); have HQ5 := Lib.hid (HQ4.out.below (HB5.out) HW4.out.size); have HL5 := Lib.hid (HL4.out.below (HB5.out) HW4.out.size)
        have HRx5 := Lib.hid ((HRx4.out.below HB5.out (Nat.le_refl _)).more HB5.out.size); have HRy5 := Lib.hid (Own.rd HO5.out); have HCy := Lib.hid (Own.cap HO5.out)
        have hc := cellOf' HC5.out; have lc := lt_of_block HC5.out
        rcases HH4.out with ⟨nc, h1, h2⟩ | ⟨nc, h1, h2⟩
        · subst h1
          have HNc := Lib.hid nc; have HLx := Lib.hid h2; clear nc h2
          rcases HH5.out with ⟨nd, h1, h2⟩ | ⟨nd, h1, h2⟩
          · subst h1
            have HNd := Lib.hid nd; have HLy := Lib.hid h2; clear nd h2
            go_wp2_with (fail)
            (with_reducible refine (right_c HR5.out HW5.out.size HFw.out.sm true (by simp [HNc.out])).mono ?_); rintro e w6 ⟨rfl, hB6⟩
            have HB6 := Lib.hid hB6; clear hB6 hc lc
            have HW6 : Hid (Below W.heap.size W w6) := Lib.hid (HW5.out.trans ((HB6.out).mono HW5.out.size)); have HC6 := Lib.hid (hkeep (HB6.out) HC5.out); have HD6 := Lib.hid (hkeep (HB6.out) HD5.out); have HR6 := Lib.hid (HR5.out.below (HB6.out) HW5.out.size); have HQ6 := Lib.hid (HQ5.out.below (HB6.out) HW5.out.size); have HL6 := Lib.hid (HL5.out.below (HB6.out) HW5.out.size)
            have HRx6 := Lib.hid ((HRx5.out.below HB6.out (Nat.le_refl _)).more HB6.out.size); have HRy6 := Lib.hid ((HRy5.out.below HB6.out (Nat.le_refl _)).more HB6.out.size)
            go_wp2_with (fail)
            (with_reducible refine (dec_en HLx.out HFc.out HLc.out HFw.out.sm HNc.out HRx6.out HCx.out).mono ?_); rintro e w7 ⟨k1, rfl, HK1, HKR1, HB7⟩
            have HW7 : Hid (Below W.heap.size W w7) := Lib.hid (HW6.out.trans ((HB7.out).mono HW6.out.size)); have HC7 := Lib.hid (hkeep (HB7.out) HC6.out); have HD7 := Lib.hid (hkeep (HB7.out) HD6.out); have HR7 := Lib.hid (HR6.out.below (HB7.out) HW6.out.size); have HQ7 := Lib.hid (HQ6.out.below (HB7.out) HW6.out.size); have HL7 := Lib.hid (HL6.out.below (HB7.out) HW6.out.size)
            have HA8 : Hid (Below w7.heap.size w7 (w7.alloc (.cells #[.slice k1.aA k1.ab.length k1.aC, .slice k1.uA k1.au.length k1.uC, .slice k1.fA k1.fo.length k1.fC, .int .i64 k1.W, .int .i64 k1.H, .slice k1.gA k1.wl.length k1.gC, .int .i64 k1.dx, .int .i64 k1.dy, .int .i64 k1.lx, .int .i64 k1.ly] 31))) := Lib.hid ((Below.refl _ _).alloc (Nat.le_refl _) _)
            have HKB8 : Hid ((w7.alloc (.cells #[.slice k1.aA k1.ab.length k1.aC, .slice k1.uA k1.au.length k1.uC, .slice k1.fA k1.fo.length k1.fC, .int .i64 k1.W, .int .i64 k1.H, .slice k1.gA k1.wl.length k1.gC, .int .i64 k1.dx, .int .i64 k1.dy, .int .i64 k1.lx, .int .i64 k1.ly] 31)).heap[w7.heap.size]? = some (.cells #[.slice k1.aA k1.ab.length k1.aC, .slice k1.uA k1.au.length k1.uC, .slice k1.fA k1.fo.length k1.fC, .int .i64 k1.W, .int .i64 k1.H, .slice k1.gA k1.wl.length k1.gC, .int .i64 k1.dx, .int .i64 k1.dy, .int .i64 k1.lx, .int .i64 k1.ly] 31)) := Lib.hid (heap_alloc_new w7 _)
            have HW8 : Hid (Below W.heap.size W (w7.alloc (.cells #[.slice k1.aA k1.ab.length k1.aC, .slice k1.uA k1.au.length k1.uC, .slice k1.fA k1.fo.length k1.fC, .int .i64 k1.W, .int .i64 k1.H, .slice k1.gA k1.wl.length k1.gC, .int .i64 k1.dx, .int .i64 k1.dy, .int .i64 k1.lx, .int .i64 k1.ly] 31))) := Lib.hid (HW7.out.trans ((HA8.out).mono HW7.out.size)); have HC8 := Lib.hid (hkeep (HA8.out) HC7.out); have HD8 := Lib.hid (hkeep (HA8.out) HD7.out); have HR8 := Lib.hid (HR7.out.below (HA8.out) HW7.out.size); have HQ8 := Lib.hid (HQ7.out.below (HA8.out) HW7.out.size); have HL8 := Lib.hid (HL7.out.below (HA8.out) HW7.out.size)
            have HKR8 := Lib.hid ((HKR1.out.below HA8.out (Nat.le_refl _)).more HA8.out.size); have HRx8 := Lib.hid ((((HRx6.out.below HB7.out (Nat.le_refl _)).more HB7.out.size).below HA8.out (Nat.le_refl _)).more HA8.out.size); have HRy8 := Lib.hid ((((HRy6.out.below HB7.out (Nat.le_refl _)).more HB7.out.size).below HA8.out (Nat.le_refl _)).more HA8.out.size)
            have hc := cellOf' HC8.out; have lc := lt_of_block HC8.out; have hk := cellOf' HKB8.out; have lk := lt_of_block HKB8.out
            go_wp2_with (fail)
            generalize hw8 : w7.alloc (.cells #[.slice k1.aA k1.ab.length k1.aC, .slice k1.uA k1.au.length k1.uC, .slice k1.fA k1.fo.length k1.fC, .int .i64 k1.W, .int .i64 k1.H, .slice k1.gA k1.wl.length k1.gC, .int .i64 k1.dx, .int .i64 k1.dy, .int .i64 k1.lx, .int .i64 k1.ly] 31) = w8 at *
            clear hw8 hk lk hc lc
            have HSk1 := Lib.hid (HFw.out.sm.of_pl HK1.out)
            (with_reducible refine (same_c k1 c HKR8.out (HR8.out.more HW8.out.size) (Nat.le_refl _) HSk1.out true (by simp [HK1.out])).mono ?_); rintro e w9 ⟨rfl, hB9⟩
            have HB9 := Lib.hid hB9; clear hB9
            have HW9 : Hid (Below W.heap.size W w9) := Lib.hid (HW8.out.trans ((HB9.out).mono HW8.out.size)); have HC9 := Lib.hid (hkeep (HB9.out) HC8.out); have HD9 := Lib.hid (hkeep (HB9.out) HD8.out); have HR9 := Lib.hid (HR8.out.below (HB9.out) HW8.out.size); have HQ9 := Lib.hid (HQ8.out.below (HB9.out) HW8.out.size); have HL9 := Lib.hid (HL8.out.below (HB9.out) HW8.out.size)
            have HRxV := Lib.hid ((HRx8.out.below HB9.out (Nat.le_refl _)).more HB9.out.size); have HRyV := Lib.hid ((HRy8.out.below HB9.out (Nat.le_refl _)).more HB9.out.size)
            go_wp2_with (fail)
            have HEq : Hid (lx = ly ↔ c.pl = d.pl) := Lib.hid (by rw [HLx.out, HLy.out]; exact ⟨fun h => flat_inj (en_inj (t := []) HFc.out HFd.out (by have := HLc.out; omega) (by have := HLd.out; omega) (by rw [List.append_nil]; exact h)).1, fun h => by rw [← fCn_pl c, h, fCn_pl d]⟩)
            have HBx : Hid (Byt lx) := Lib.hid (by rw [HLx.out]; exact en_byt _); have HBy : Hid (Byt ly) := Lib.hid (by rw [HLy.out]; exact en_byt _)
            by_cases hz : c.pl = d.pl
            · have HZz : Hid (true = true ↔ c.pl = d.pl) := Lib.hid (by simp [hz])
              have hbeq := beq_str HBx.out HBy.out true (by rw [HEq.out]; simp [hz])
              clear hz
              have hS0 : Below w9.heap.size w9 w9.drew := (Below.refl _ _).drew
              refine wp_region_noPanic ?_
              refine wp_region_held_drew (S := fun w' => Below w9.heap.size w9 w') (by kernel_rfl) hS0 (fun _ => ?_)
              generalize w9.drew = v0 at hS0 ⊢
              refine wpAnyH_take (i := 0) (oi := ⟨some 64, Op.move (Operand.tmp 10), 39, _, _, none⟩) (v := ?vq10) rfl (by kernel_rfl) (by kernel_rfl) (by kernel_rfl) (fun _ _ _ h => h) (Or.inl ⟨by rfl, ?hq10⟩) hS0 ?rq10
              case hq10 => (intro wz hSw; go_simp <;> with_reducible rfl)
              (try simp only [Act.put, List.setIfInBounds_toArray, List.set_cons_zero, List.set_cons_succ])
              refine wpAnyH_take (i := 1) (oi := ⟨some 65, Op.binOp BinOp.eql 39 (Operand.tmp 64) (Operand.const (Value.int IntKind.i64 0)) 39, 4, _, _, none⟩) (v := ?vq11) rfl (by kernel_rfl) (by kernel_rfl) (by kernel_rfl) (fun _ _ _ h => h) (Or.inl ⟨by rfl, ?hq11⟩) hS0 ?rq11
              case hq11 => (intro wz hSw; go_simp <;> with_reducible rfl)
              (try simp only [Act.put, List.setIfInBounds_toArray, List.set_cons_zero, List.set_cons_succ])
              refine wpAnyH_take (i := 2) (oi := ⟨some 66, Op.move (Operand.tmp 65), 4, _, _, none⟩) (v := ?vq12) rfl (by kernel_rfl) (by kernel_rfl) (by kernel_rfl) (fun _ _ _ h => h) (Or.inl ⟨by rfl, ?hq12⟩) hS0 ?rq12
              case hq12 => (intro wz hSw; go_simp <;> with_reducible rfl)
              (try simp only [Act.put, List.setIfInBounds_toArray, List.set_cons_zero, List.set_cons_succ])
              refine wpAnyH_take (i := 3) (oi := ⟨some 67, Op.move (Operand.tmp 12), 39, _, _, some (2, true)⟩) (v := ?vq13) rfl (by kernel_rfl) (by kernel_rfl) (by kernel_rfl) (fun _ _ _ h => h) (Or.inl ⟨by rfl, ?hq13⟩) hS0 ?rq13
              case hq13 => (intro wz hSw; go_simp <;> with_reducible rfl)
              (try simp only [Act.put, List.setIfInBounds_toArray, List.set_cons_zero, List.set_cons_succ])
              refine wpAnyH_take (i := 4) (oi := ⟨some 68, Op.binOp BinOp.eql 39 (Operand.tmp 67) (Operand.const (Value.int IntKind.i64 0)) 39, 4, _, _, some (2, true)⟩) (v := ?vq14) rfl (by kernel_rfl) (by kernel_rfl) (by kernel_rfl) (fun _ _ _ h => h) (Or.inl ⟨by rfl, ?hq14⟩) hS0 ?rq14
              case hq14 => (intro wz hSw; go_simp <;> with_reducible rfl)
              (try simp only [Act.put, List.setIfInBounds_toArray, List.set_cons_zero, List.set_cons_succ])
              refine wpAnyH_take (i := 5) (oi := ⟨some 69, Op.pick (Operand.tmp 66) (Operand.tmp 68) (Operand.const (Value.bool false)), 4, _, _, none⟩) (v := ?vq15) rfl (by kernel_rfl) (by kernel_rfl) (by kernel_rfl) (fun _ _ _ h => h) (Or.inl ⟨by rfl, ?hq15⟩) hS0 ?rq15
              case hq15 => (intro wz hSw; go_simp <;> with_reducible rfl)
              (try simp only [Act.put, List.setIfInBounds_toArray, List.set_cons_zero, List.set_cons_succ])
              refine wpAnyH_take (i := 6) (oi := ⟨some 70, Op.move (Operand.tmp 69), 4, _, _, none⟩) (v := ?vq16) rfl (by kernel_rfl) (by kernel_rfl) (by kernel_rfl) (fun _ _ _ h => h) (Or.inl ⟨by rfl, ?hq16⟩) hS0 ?rq16
              case hq16 => (intro wz hSw; go_simp <;> with_reducible rfl)
              (try simp only [Act.put, List.setIfInBounds_toArray, List.set_cons_zero, List.set_cons_succ])
              refine wpAnyH_take (i := 7) (oi := ⟨some 71, Op.move (Operand.tmp 9), 38, _, _, some (6, true)⟩) (v := ?vq17) rfl (by kernel_rfl) (by kernel_rfl) (by kernel_rfl) (fun _ _ _ h => h) (Or.inl ⟨by rfl, ?hq17⟩) hS0 ?rq17
              case hq17 => (intro wz hSw; go_simp <;> with_reducible rfl)
              (try simp only [Act.put, List.setIfInBounds_toArray, List.set_cons_zero, List.set_cons_succ])
              refine wpAnyH_take (i := 8) (oi := ⟨some 72, Op.convert 38 9 (Operand.tmp 71), 9, _, _, some (6, true)⟩) (v := ?vq18) rfl (by kernel_rfl) (by kernel_rfl) (by kernel_rfl) (fun _ _ _ h => h) (Or.inl ⟨by rfl, ?hq18⟩) hS0 ?rq18
              case hq18 => (intro wz hSw; have h1 := conv cx (HRxV.out.below hSw (Nat.le_refl _)); go_simp <;> with_reducible rfl)
              (try simp only [Act.put, List.setIfInBounds_toArray, List.set_cons_zero, List.set_cons_succ])
              refine wpAnyH_take (i := 9) (oi := ⟨some 73, Op.move (Operand.tmp 11), 38, _, _, some (6, true)⟩) (v := ?vq19) rfl (by kernel_rfl) (by kernel_rfl) (by kernel_rfl) (fun _ _ _ h => h) (Or.inl ⟨by rfl, ?hq19⟩) hS0 ?rq19
              case hq19 => (intro wz hSw; go_simp <;> with_reducible rfl)
              (try simp only [Act.put, List.setIfInBounds_toArray, List.set_cons_zero, List.set_cons_succ])
              refine wpAnyH_take (i := 10) (oi := ⟨some 74, Op.convert 38 9 (Operand.tmp 73), 9, _, _, some (6, true)⟩) (v := ?vq110) rfl (by kernel_rfl) (by kernel_rfl) (by kernel_rfl) (fun _ _ _ h => h) (Or.inl ⟨by rfl, ?hq110⟩) hS0 ?rq110
              case hq110 => (intro wz hSw; have h2 := conv cy (HRyV.out.below hSw (Nat.le_refl _)); go_simp <;> with_reducible rfl)
              (try simp only [Act.put, List.setIfInBounds_toArray, List.set_cons_zero, List.set_cons_succ])
              refine wpAnyH_take (i := 11) (oi := ⟨some 75, Op.binOp BinOp.eql 9 (Operand.tmp 72) (Operand.tmp 74) 9, 4, _, _, some (6, true)⟩) (v := ?vq111) rfl (by kernel_rfl) (by kernel_rfl) (by kernel_rfl) (fun _ _ _ h => h) (Or.inl ⟨by rfl, ?hq111⟩) hS0 ?rq111
              case hq111 => (intro wz hSw; go_simp <;> with_reducible rfl)
              (try simp only [Act.put, List.setIfInBounds_toArray, List.set_cons_zero, List.set_cons_succ])
              refine wpAnyH_take (i := 12) (oi := ⟨some 76, Op.load 31 (Operand.tmp 3), 31, _, _, some (6, true)⟩) (v := ?vq112) rfl (by kernel_rfl) (by kernel_rfl) (by kernel_rfl) (fun _ _ _ h => h) (Or.inl ⟨by rfl, ?hq112⟩) hS0 ?rq112
              case hq112 => (intro wz hSw; have hc := cellOf' (hkeep hSw HC9.out); go_simp <;> with_reducible rfl)
              (try simp only [Act.put, List.setIfInBounds_toArray, List.set_cons_zero, List.set_cons_succ])
              refine wpAnyH_take (i := 13) (oi := ⟨some 77, Op.load 31 (Operand.tmp 4), 31, _, _, some (6, true)⟩) (v := ?vq113) rfl (by kernel_rfl) (by kernel_rfl) (by kernel_rfl) (fun _ _ _ h => h) (Or.inl ⟨by rfl, ?hq113⟩) hS0 ?rq113
              case hq113 => (intro wz hSw; have hd := cellOf' (hkeep hSw HD9.out); go_simp <;> with_reducible rfl)
              (try simp only [Act.put, List.setIfInBounds_toArray, List.set_cons_zero, List.set_cons_succ])
              refine wpAnyH_ready (rs := [14]) (by kernel_rfl) (by simp) ?_
              refine AllReadyH.cons (o := ⟨some 78, Op.call { callee := Callee.value (Operand.func 21), args := #[Operand.tmp 76, Operand.tmp 77], argTypes := #[31, 31] }, 4, _, _, some (6, true)⟩) rfl (fun K hK => ?_) AllReadyH.nil
              go_simp
              (with_reducible refine (same_c c d (HR9.out.below hS0 HW9.out.size) (HQ9.out.below hS0 HW9.out.size) (Nat.le_trans HW9.out.size (hS0).size) HFw.out.sm true HZz.out).mono ?_); rintro e v1 ⟨rfl, hBv⟩; have hS1 := hS0.trans (hBv.mono hS0.size)
              refine hK.out _ _ hS1 (fun _ => ?_)
              clear hK K
              (try simp only [Act.put, List.setIfInBounds_toArray, List.set_cons_zero, List.set_cons_succ])
              refine wpAnyH_take (i := 15) (oi := ⟨some 79, Op.binOp BinOp.neq 4 (Operand.tmp 75) (Operand.tmp 78) 4, 4, _, _, some (6, true)⟩) (v := ?vq115) rfl (by kernel_rfl) (by kernel_rfl) (by kernel_rfl) (fun _ _ _ h => h) (Or.inl ⟨by rfl, ?hq115⟩) hS1 ?rq115
              case hq115 => (intro wz hSw; go_simp <;> with_reducible rfl)
              (try simp only [Act.put, List.setIfInBounds_toArray, List.set_cons_zero, List.set_cons_succ])
              refine wpAnyH_take (i := 16) (oi := ⟨some 80, Op.pick (Operand.tmp 70) (Operand.tmp 79) (Operand.const (Value.bool false)), 4, _, _, none⟩) (v := ?vq116) rfl (by kernel_rfl) (by kernel_rfl) (by kernel_rfl) (fun _ _ _ h => h) (Or.inl ⟨by rfl, ?hq116⟩) hS1 ?rq116
              case hq116 => (intro wz hSw; go_simp <;> with_reducible rfl)
              (try simp only [Act.put, List.setIfInBounds_toArray, List.set_cons_zero, List.set_cons_succ])
              refine wpAnyH_done (by kernel_rfl) ?_ _
              refine NoPanic.normal ?_
              have HWE : Hid (Below W.heap.size W v1) := Lib.hid (HW9.out.trans ((hS1).mono HW9.out.size))
              have HLE := Lib.hid (HL9.out.below (hS1) HW9.out.size)
              go_wp2_with (fail)
              (with_reducible refine (dec_short HLE.out HWE.out.size HBl.out HCl.out HL4k.out).mono ?_)
              rintro e u1 (⟨er, her, rfl, HU1⟩ | ⟨k, rfl, HK, HKr, HU1⟩)
              · have HZ1 : Hid (Below W.heap.size W u1) := Lib.hid (HWE.out.trans (HU1.out.mono HWE.out.size))
                rcases her with rfl | rfl
                · go_wp2_with (fail)
                  (with_reducible refine (same_zero _).mono ?_); rintro e u2 ⟨rfl, hU2⟩
                  go_wp2
                  go_ret
                  exact ⟨rfl, (HZ1.out.alloc HZ1.out.size _).trans (hU2.mono (HZ1.out.alloc HZ1.out.size _).size)⟩
                · go_wp2_with (fail)
                  (with_reducible refine (same_zero _).mono ?_); rintro e u2 ⟨rfl, hU2⟩
                  go_wp2
                  go_ret
                  exact ⟨rfl, (HZ1.out.alloc HZ1.out.size _).trans (hU2.mono (HZ1.out.alloc HZ1.out.size _).size)⟩
              · obtain ⟨kr, ke, kf, kl⟩ := HK.out
                have HKt := Lib.hid kr; have HKe := Lib.hid ke; have HKf := Lib.hid kf; have HKl := Lib.hid kl
                clear kr ke kf kl HK
                have HZ1 : Hid (Below W.heap.size W u1) := Lib.hid (HWE.out.trans (HU1.out.mono HWE.out.size))
                have HKb : Hid ((u1.alloc (.cells #[.slice k.aA k.ab.length k.aC, .slice k.uA k.au.length k.uC, .slice k.fA k.fo.length k.fC, .int .i64 k.W, .int .i64 k.H, .slice k.gA k.wl.length k.gC, .int .i64 k.dx, .int .i64 k.dy, .int .i64 k.lx, .int .i64 k.ly] 31)).heap[u1.heap.size]? = some (.cells #[.slice k.aA k.ab.length k.aC, .slice k.uA k.au.length k.uC, .slice k.fA k.fo.length k.fC, .int .i64 k.W, .int .i64 k.H, .slice k.gA k.wl.length k.gC, .int .i64 k.dx, .int .i64 k.dy, .int .i64 k.lx, .int .i64 k.ly] 31)) := Lib.hid (heap_alloc_new u1 _)
                have HAl : Hid (Below u1.heap.size u1 (u1.alloc (.cells #[.slice k.aA k.ab.length k.aC, .slice k.uA k.au.length k.uC, .slice k.fA k.fo.length k.fC, .int .i64 k.W, .int .i64 k.H, .slice k.gA k.wl.length k.gC, .int .i64 k.dx, .int .i64 k.dy, .int .i64 k.lx, .int .i64 k.ly] 31))) := Lib.hid ((Below.refl _ _).alloc (Nat.le_refl _) _)
                have HKr2 := Lib.hid ((HKr.out.below HAl.out (Nat.le_refl _)).more HAl.out.size)
                have HZ2 : Hid (Below W.heap.size W (u1.alloc (.cells #[.slice k.aA k.ab.length k.aC, .slice k.uA k.au.length k.uC, .slice k.fA k.fo.length k.fC, .int .i64 k.W, .int .i64 k.H, .slice k.gA k.wl.length k.gC, .int .i64 k.dx, .int .i64 k.dy, .int .i64 k.lx, .int .i64 k.ly] 31))) := Lib.hid (HZ1.out.trans (HAl.out.mono HZ1.out.size))
                have HLl : Hid (Rd .u8 (u1.alloc (.cells #[.slice k.aA k.ab.length k.aC, .slice k.uA k.au.length k.uC, .slice k.fA k.fo.length k.fC, .int .i64 k.W, .int .i64 k.H, .slice k.gA k.wl.length k.gC, .int .i64 k.dx, .int .i64 k.dy, .int .i64 k.lx, .int .i64 k.ly] 31)) W.heap.size A l) := Lib.hid ((HLE.out.below HU1.out HWE.out.size).below HAl.out HZ1.out.size)
                have hk := cellOf' HKb.out; have lk := lt_of_block HKb.out
                go_wp2_with (fail)
                generalize hu : u1.alloc (.cells #[.slice k.aA k.ab.length k.aC, .slice k.uA k.au.length k.uC, .slice k.fA k.fo.length k.fC, .int .i64 k.W, .int .i64 k.H, .slice k.gA k.wl.length k.gC, .int .i64 k.dx, .int .i64 k.dy, .int .i64 k.lx, .int .i64 k.ly] 31) = u2 at *
                clear hu hk lk
                have HSk := Lib.hid (sm_flat (d := k) (by have := HKl.out; omega))
                (with_reducible refine (encode_c k HKr2.out (Nat.le_refl _) HSk.out (fun _ => HKf.out) (by have := HKl.out; omega)).mono ?_); rintro e u3 ⟨lz, Az, cz, ez, rfl, HHz, HOz, HU3⟩
                rcases HHz.out with ⟨_, z1, z2⟩ | ⟨z0, _⟩
                · subst z1
                  have HLz := Lib.hid z2; clear z2
                  have HKb3 := Lib.hid (hkeep HU3.out HKb.out)
                  have HKr3 := Lib.hid (HKr2.out.below HU3.out (Nat.le_refl _))
                  have HZ3 : Hid (Below W.heap.size W u3) := Lib.hid (HZ2.out.trans (HU3.out.mono HZ2.out.size))
                  have HRz := Lib.hid (Own.rd HOz.out)
                  have HLl3 := Lib.hid (HLl.out.below HU3.out HZ2.out.size)
                  have hk := cellOf' HKb3.out; have lk := lt_of_block HKb3.out
                  have hbq := beq_str (l := lz) (m := l) (by rw [HLz.out]; exact en_byt _) HBl.out true (by simp [HLz.out, ← HKe.out])
                  go_wp2_with (fail)
                  (with_reducible refine (right_c HKr3.out HU3.out.size HSk.out true (by simp [HKt.out])).mono ?_); rintro e u4 ⟨rfl, hU4⟩
                  have h1 := conv cz ((HRz.out.below hU4 (Nat.le_refl _)))
                  have h2 := conv cb (HLl3.out.below hU4 HZ3.out.size)
                  clear hk lk
                  go_wp2
                  go_ret
                  exact ⟨rfl, HZ3.out.trans (hU4.mono HZ3.out.size)⟩
                · exact absurd HKt.out z0
            · have HZz : Hid (false = true ↔ c.pl = d.pl) := Lib.hid (by simp [hz])
              have hbeq := beq_str HBx.out HBy.out false (by rw [HEq.out]; simp [hz])
              clear hz
              have hS0 : Below w9.heap.size w9 w9.drew := (Below.refl _ _).drew
              refine wp_region_noPanic ?_
              refine wp_region_held_drew (S := fun w' => Below w9.heap.size w9 w') (by kernel_rfl) hS0 (fun _ => ?_)
              generalize w9.drew = v0 at hS0 ⊢
              refine wpAnyH_take (i := 0) (oi := ⟨some 64, Op.move (Operand.tmp 10), 39, _, _, none⟩) (v := ?vq20) rfl (by kernel_rfl) (by kernel_rfl) (by kernel_rfl) (fun _ _ _ h => h) (Or.inl ⟨by rfl, ?hq20⟩) hS0 ?rq20
              case hq20 => (intro wz hSw; go_simp <;> with_reducible rfl)
              (try simp only [Act.put, List.setIfInBounds_toArray, List.set_cons_zero, List.set_cons_succ])
              refine wpAnyH_take (i := 1) (oi := ⟨some 65, Op.binOp BinOp.eql 39 (Operand.tmp 64) (Operand.const (Value.int IntKind.i64 0)) 39, 4, _, _, none⟩) (v := ?vq21) rfl (by kernel_rfl) (by kernel_rfl) (by kernel_rfl) (fun _ _ _ h => h) (Or.inl ⟨by rfl, ?hq21⟩) hS0 ?rq21
              case hq21 => (intro wz hSw; go_simp <;> with_reducible rfl)
              (try simp only [Act.put, List.setIfInBounds_toArray, List.set_cons_zero, List.set_cons_succ])
              refine wpAnyH_take (i := 2) (oi := ⟨some 66, Op.move (Operand.tmp 65), 4, _, _, none⟩) (v := ?vq22) rfl (by kernel_rfl) (by kernel_rfl) (by kernel_rfl) (fun _ _ _ h => h) (Or.inl ⟨by rfl, ?hq22⟩) hS0 ?rq22
              case hq22 => (intro wz hSw; go_simp <;> with_reducible rfl)
              (try simp only [Act.put, List.setIfInBounds_toArray, List.set_cons_zero, List.set_cons_succ])
              refine wpAnyH_take (i := 3) (oi := ⟨some 67, Op.move (Operand.tmp 12), 39, _, _, some (2, true)⟩) (v := ?vq23) rfl (by kernel_rfl) (by kernel_rfl) (by kernel_rfl) (fun _ _ _ h => h) (Or.inl ⟨by rfl, ?hq23⟩) hS0 ?rq23
              case hq23 => (intro wz hSw; go_simp <;> with_reducible rfl)
              (try simp only [Act.put, List.setIfInBounds_toArray, List.set_cons_zero, List.set_cons_succ])
              refine wpAnyH_take (i := 4) (oi := ⟨some 68, Op.binOp BinOp.eql 39 (Operand.tmp 67) (Operand.const (Value.int IntKind.i64 0)) 39, 4, _, _, some (2, true)⟩) (v := ?vq24) rfl (by kernel_rfl) (by kernel_rfl) (by kernel_rfl) (fun _ _ _ h => h) (Or.inl ⟨by rfl, ?hq24⟩) hS0 ?rq24
              case hq24 => (intro wz hSw; go_simp <;> with_reducible rfl)
              (try simp only [Act.put, List.setIfInBounds_toArray, List.set_cons_zero, List.set_cons_succ])
              refine wpAnyH_take (i := 5) (oi := ⟨some 69, Op.pick (Operand.tmp 66) (Operand.tmp 68) (Operand.const (Value.bool false)), 4, _, _, none⟩) (v := ?vq25) rfl (by kernel_rfl) (by kernel_rfl) (by kernel_rfl) (fun _ _ _ h => h) (Or.inl ⟨by rfl, ?hq25⟩) hS0 ?rq25
              case hq25 => (intro wz hSw; go_simp <;> with_reducible rfl)
              (try simp only [Act.put, List.setIfInBounds_toArray, List.set_cons_zero, List.set_cons_succ])
              refine wpAnyH_take (i := 6) (oi := ⟨some 70, Op.move (Operand.tmp 69), 4, _, _, none⟩) (v := ?vq26) rfl (by kernel_rfl) (by kernel_rfl) (by kernel_rfl) (fun _ _ _ h => h) (Or.inl ⟨by rfl, ?hq26⟩) hS0 ?rq26
              case hq26 => (intro wz hSw; go_simp <;> with_reducible rfl)
              (try simp only [Act.put, List.setIfInBounds_toArray, List.set_cons_zero, List.set_cons_succ])
              refine wpAnyH_take (i := 7) (oi := ⟨some 71, Op.move (Operand.tmp 9), 38, _, _, some (6, true)⟩) (v := ?vq27) rfl (by kernel_rfl) (by kernel_rfl) (by kernel_rfl) (fun _ _ _ h => h) (Or.inl ⟨by rfl, ?hq27⟩) hS0 ?rq27
              case hq27 => (intro wz hSw; go_simp <;> with_reducible rfl)
              (try simp only [Act.put, List.setIfInBounds_toArray, List.set_cons_zero, List.set_cons_succ])
              refine wpAnyH_take (i := 8) (oi := ⟨some 72, Op.convert 38 9 (Operand.tmp 71), 9, _, _, some (6, true)⟩) (v := ?vq28) rfl (by kernel_rfl) (by kernel_rfl) (by kernel_rfl) (fun _ _ _ h => h) (Or.inl ⟨by rfl, ?hq28⟩) hS0 ?rq28
              case hq28 => (intro wz hSw; have h1 := conv cx (HRxV.out.below hSw (Nat.le_refl _)); go_simp <;> with_reducible rfl)
              (try simp only [Act.put, List.setIfInBounds_toArray, List.set_cons_zero, List.set_cons_succ])
              refine wpAnyH_take (i := 9) (oi := ⟨some 73, Op.move (Operand.tmp 11), 38, _, _, some (6, true)⟩) (v := ?vq29) rfl (by kernel_rfl) (by kernel_rfl) (by kernel_rfl) (fun _ _ _ h => h) (Or.inl ⟨by rfl, ?hq29⟩) hS0 ?rq29
              case hq29 => (intro wz hSw; go_simp <;> with_reducible rfl)
              (try simp only [Act.put, List.setIfInBounds_toArray, List.set_cons_zero, List.set_cons_succ])
              refine wpAnyH_take (i := 10) (oi := ⟨some 74, Op.convert 38 9 (Operand.tmp 73), 9, _, _, some (6, true)⟩) (v := ?vq210) rfl (by kernel_rfl) (by kernel_rfl) (by kernel_rfl) (fun _ _ _ h => h) (Or.inl ⟨by rfl, ?hq210⟩) hS0 ?rq210
              case hq210 => (intro wz hSw; have h2 := conv cy (HRyV.out.below hSw (Nat.le_refl _)); go_simp <;> with_reducible rfl)
              (try simp only [Act.put, List.setIfInBounds_toArray, List.set_cons_zero, List.set_cons_succ])
              refine wpAnyH_take (i := 11) (oi := ⟨some 75, Op.binOp BinOp.eql 9 (Operand.tmp 72) (Operand.tmp 74) 9, 4, _, _, some (6, true)⟩) (v := ?vq211) rfl (by kernel_rfl) (by kernel_rfl) (by kernel_rfl) (fun _ _ _ h => h) (Or.inl ⟨by rfl, ?hq211⟩) hS0 ?rq211
              case hq211 => (intro wz hSw; go_simp <;> with_reducible rfl)
              (try simp only [Act.put, List.setIfInBounds_toArray, List.set_cons_zero, List.set_cons_succ])
              refine wpAnyH_take (i := 12) (oi := ⟨some 76, Op.load 31 (Operand.tmp 3), 31, _, _, some (6, true)⟩) (v := ?vq212) rfl (by kernel_rfl) (by kernel_rfl) (by kernel_rfl) (fun _ _ _ h => h) (Or.inl ⟨by rfl, ?hq212⟩) hS0 ?rq212
              case hq212 => (intro wz hSw; have hc := cellOf' (hkeep hSw HC9.out); go_simp <;> with_reducible rfl)
              (try simp only [Act.put, List.setIfInBounds_toArray, List.set_cons_zero, List.set_cons_succ])
              refine wpAnyH_take (i := 13) (oi := ⟨some 77, Op.load 31 (Operand.tmp 4), 31, _, _, some (6, true)⟩) (v := ?vq213) rfl (by kernel_rfl) (by kernel_rfl) (by kernel_rfl) (fun _ _ _ h => h) (Or.inl ⟨by rfl, ?hq213⟩) hS0 ?rq213
              case hq213 => (intro wz hSw; have hd := cellOf' (hkeep hSw HD9.out); go_simp <;> with_reducible rfl)
              (try simp only [Act.put, List.setIfInBounds_toArray, List.set_cons_zero, List.set_cons_succ])
              refine wpAnyH_ready (rs := [14]) (by kernel_rfl) (by simp) ?_
              refine AllReadyH.cons (o := ⟨some 78, Op.call { callee := Callee.value (Operand.func 21), args := #[Operand.tmp 76, Operand.tmp 77], argTypes := #[31, 31] }, 4, _, _, some (6, true)⟩) rfl (fun K hK => ?_) AllReadyH.nil
              go_simp
              (with_reducible refine (same_c c d (HR9.out.below hS0 HW9.out.size) (HQ9.out.below hS0 HW9.out.size) (Nat.le_trans HW9.out.size (hS0).size) HFw.out.sm false HZz.out).mono ?_); rintro e v1 ⟨rfl, hBv⟩; have hS1 := hS0.trans (hBv.mono hS0.size)
              refine hK.out _ _ hS1 (fun _ => ?_)
              clear hK K
              (try simp only [Act.put, List.setIfInBounds_toArray, List.set_cons_zero, List.set_cons_succ])
              refine wpAnyH_take (i := 15) (oi := ⟨some 79, Op.binOp BinOp.neq 4 (Operand.tmp 75) (Operand.tmp 78) 4, 4, _, _, some (6, true)⟩) (v := ?vq215) rfl (by kernel_rfl) (by kernel_rfl) (by kernel_rfl) (fun _ _ _ h => h) (Or.inl ⟨by rfl, ?hq215⟩) hS1 ?rq215
              case hq215 => (intro wz hSw; go_simp <;> with_reducible rfl)
              (try simp only [Act.put, List.setIfInBounds_toArray, List.set_cons_zero, List.set_cons_succ])
              refine wpAnyH_take (i := 16) (oi := ⟨some 80, Op.pick (Operand.tmp 70) (Operand.tmp 79) (Operand.const (Value.bool false)), 4, _, _, none⟩) (v := ?vq216) rfl (by kernel_rfl) (by kernel_rfl) (by kernel_rfl) (fun _ _ _ h => h) (Or.inl ⟨by rfl, ?hq216⟩) hS1 ?rq216
              case hq216 => (intro wz hSw; go_simp <;> with_reducible rfl)
              (try simp only [Act.put, List.setIfInBounds_toArray, List.set_cons_zero, List.set_cons_succ])
              refine wpAnyH_done (by kernel_rfl) ?_ _
              refine NoPanic.normal ?_
              have HWE : Hid (Below W.heap.size W v1) := Lib.hid (HW9.out.trans ((hS1).mono HW9.out.size))
              have HLE := Lib.hid (HL9.out.below (hS1) HW9.out.size)
              go_wp2_with (fail)
              (with_reducible refine (dec_short HLE.out HWE.out.size HBl.out HCl.out HL4k.out).mono ?_)
              rintro e u1 (⟨er, her, rfl, HU1⟩ | ⟨k, rfl, HK, HKr, HU1⟩)
              · have HZ1 : Hid (Below W.heap.size W u1) := Lib.hid (HWE.out.trans (HU1.out.mono HWE.out.size))
                rcases her with rfl | rfl
                · go_wp2_with (fail)
                  (with_reducible refine (same_zero _).mono ?_); rintro e u2 ⟨rfl, hU2⟩
                  go_wp2
                  go_ret
                  exact ⟨rfl, (HZ1.out.alloc HZ1.out.size _).trans (hU2.mono (HZ1.out.alloc HZ1.out.size _).size)⟩
                · go_wp2_with (fail)
                  (with_reducible refine (same_zero _).mono ?_); rintro e u2 ⟨rfl, hU2⟩
                  go_wp2
                  go_ret
                  exact ⟨rfl, (HZ1.out.alloc HZ1.out.size _).trans (hU2.mono (HZ1.out.alloc HZ1.out.size _).size)⟩
              · obtain ⟨kr, ke, kf, kl⟩ := HK.out
                have HKt := Lib.hid kr; have HKe := Lib.hid ke; have HKf := Lib.hid kf; have HKl := Lib.hid kl
                clear kr ke kf kl HK
                have HZ1 : Hid (Below W.heap.size W u1) := Lib.hid (HWE.out.trans (HU1.out.mono HWE.out.size))
                have HKb : Hid ((u1.alloc (.cells #[.slice k.aA k.ab.length k.aC, .slice k.uA k.au.length k.uC, .slice k.fA k.fo.length k.fC, .int .i64 k.W, .int .i64 k.H, .slice k.gA k.wl.length k.gC, .int .i64 k.dx, .int .i64 k.dy, .int .i64 k.lx, .int .i64 k.ly] 31)).heap[u1.heap.size]? = some (.cells #[.slice k.aA k.ab.length k.aC, .slice k.uA k.au.length k.uC, .slice k.fA k.fo.length k.fC, .int .i64 k.W, .int .i64 k.H, .slice k.gA k.wl.length k.gC, .int .i64 k.dx, .int .i64 k.dy, .int .i64 k.lx, .int .i64 k.ly] 31)) := Lib.hid (heap_alloc_new u1 _)
                have HAl : Hid (Below u1.heap.size u1 (u1.alloc (.cells #[.slice k.aA k.ab.length k.aC, .slice k.uA k.au.length k.uC, .slice k.fA k.fo.length k.fC, .int .i64 k.W, .int .i64 k.H, .slice k.gA k.wl.length k.gC, .int .i64 k.dx, .int .i64 k.dy, .int .i64 k.lx, .int .i64 k.ly] 31))) := Lib.hid ((Below.refl _ _).alloc (Nat.le_refl _) _)
                have HKr2 := Lib.hid ((HKr.out.below HAl.out (Nat.le_refl _)).more HAl.out.size)
                have HZ2 : Hid (Below W.heap.size W (u1.alloc (.cells #[.slice k.aA k.ab.length k.aC, .slice k.uA k.au.length k.uC, .slice k.fA k.fo.length k.fC, .int .i64 k.W, .int .i64 k.H, .slice k.gA k.wl.length k.gC, .int .i64 k.dx, .int .i64 k.dy, .int .i64 k.lx, .int .i64 k.ly] 31))) := Lib.hid (HZ1.out.trans (HAl.out.mono HZ1.out.size))
                have HLl : Hid (Rd .u8 (u1.alloc (.cells #[.slice k.aA k.ab.length k.aC, .slice k.uA k.au.length k.uC, .slice k.fA k.fo.length k.fC, .int .i64 k.W, .int .i64 k.H, .slice k.gA k.wl.length k.gC, .int .i64 k.dx, .int .i64 k.dy, .int .i64 k.lx, .int .i64 k.ly] 31)) W.heap.size A l) := Lib.hid ((HLE.out.below HU1.out HWE.out.size).below HAl.out HZ1.out.size)
                have hk := cellOf' HKb.out; have lk := lt_of_block HKb.out
                go_wp2_with (fail)
                generalize hu : u1.alloc (.cells #[.slice k.aA k.ab.length k.aC, .slice k.uA k.au.length k.uC, .slice k.fA k.fo.length k.fC, .int .i64 k.W, .int .i64 k.H, .slice k.gA k.wl.length k.gC, .int .i64 k.dx, .int .i64 k.dy, .int .i64 k.lx, .int .i64 k.ly] 31) = u2 at *
                clear hu hk lk
                have HSk := Lib.hid (sm_flat (d := k) (by have := HKl.out; omega))
                (with_reducible refine (encode_c k HKr2.out (Nat.le_refl _) HSk.out (fun _ => HKf.out) (by have := HKl.out; omega)).mono ?_); rintro e u3 ⟨lz, Az, cz, ez, rfl, HHz, HOz, HU3⟩
                rcases HHz.out with ⟨_, z1, z2⟩ | ⟨z0, _⟩
                · subst z1
                  have HLz := Lib.hid z2; clear z2
                  have HKb3 := Lib.hid (hkeep HU3.out HKb.out)
                  have HKr3 := Lib.hid (HKr2.out.below HU3.out (Nat.le_refl _))
                  have HZ3 : Hid (Below W.heap.size W u3) := Lib.hid (HZ2.out.trans (HU3.out.mono HZ2.out.size))
                  have HRz := Lib.hid (Own.rd HOz.out)
                  have HLl3 := Lib.hid (HLl.out.below HU3.out HZ2.out.size)
                  have hk := cellOf' HKb3.out; have lk := lt_of_block HKb3.out
                  have hbq := beq_str (l := lz) (m := l) (by rw [HLz.out]; exact en_byt _) HBl.out true (by simp [HLz.out, ← HKe.out])
                  go_wp2_with (fail)
                  (with_reducible refine (right_c HKr3.out HU3.out.size HSk.out true (by simp [HKt.out])).mono ?_); rintro e u4 ⟨rfl, hU4⟩
                  have h1 := conv cz ((HRz.out.below hU4 (Nat.le_refl _)))
                  have h2 := conv cb (HLl3.out.below hU4 HZ3.out.size)
                  clear hk lk
                  go_wp2
                  go_ret
                  exact ⟨rfl, HZ3.out.trans (hU4.mono HZ3.out.size)⟩
                · exact absurd HKt.out z0
          · subst h1
            have HNd := Lib.hid nd; have HLy := Lib.hid h2; clear nd h2
            go_wp2_with (fail)
            (with_reducible refine (right_c HR5.out HW5.out.size HFw.out.sm true (by simp [HNc.out])).mono ?_); rintro e w6 ⟨rfl, hB6⟩
            have HB6 := Lib.hid hB6; clear hB6 hc lc
            have HW6 : Hid (Below W.heap.size W w6) := Lib.hid (HW5.out.trans ((HB6.out).mono HW5.out.size)); have HC6 := Lib.hid (hkeep (HB6.out) HC5.out); have HD6 := Lib.hid (hkeep (HB6.out) HD5.out); have HR6 := Lib.hid (HR5.out.below (HB6.out) HW5.out.size); have HQ6 := Lib.hid (HQ5.out.below (HB6.out) HW5.out.size); have HL6 := Lib.hid (HL5.out.below (HB6.out) HW5.out.size)
            have HRx6 := Lib.hid ((HRx5.out.below HB6.out (Nat.le_refl _)).more HB6.out.size); have HRy6 := Lib.hid ((HRy5.out.below HB6.out (Nat.le_refl _)).more HB6.out.size)
            go_wp2_with (fail)
            (with_reducible refine (dec_en HLx.out HFc.out HLc.out HFw.out.sm HNc.out HRx6.out HCx.out).mono ?_); rintro e w7 ⟨k1, rfl, HK1, HKR1, HB7⟩
            have HW7 : Hid (Below W.heap.size W w7) := Lib.hid (HW6.out.trans ((HB7.out).mono HW6.out.size)); have HC7 := Lib.hid (hkeep (HB7.out) HC6.out); have HD7 := Lib.hid (hkeep (HB7.out) HD6.out); have HR7 := Lib.hid (HR6.out.below (HB7.out) HW6.out.size); have HQ7 := Lib.hid (HQ6.out.below (HB7.out) HW6.out.size); have HL7 := Lib.hid (HL6.out.below (HB7.out) HW6.out.size)
            have HA8 : Hid (Below w7.heap.size w7 (w7.alloc (.cells #[.slice k1.aA k1.ab.length k1.aC, .slice k1.uA k1.au.length k1.uC, .slice k1.fA k1.fo.length k1.fC, .int .i64 k1.W, .int .i64 k1.H, .slice k1.gA k1.wl.length k1.gC, .int .i64 k1.dx, .int .i64 k1.dy, .int .i64 k1.lx, .int .i64 k1.ly] 31))) := Lib.hid ((Below.refl _ _).alloc (Nat.le_refl _) _)
            have HKB8 : Hid ((w7.alloc (.cells #[.slice k1.aA k1.ab.length k1.aC, .slice k1.uA k1.au.length k1.uC, .slice k1.fA k1.fo.length k1.fC, .int .i64 k1.W, .int .i64 k1.H, .slice k1.gA k1.wl.length k1.gC, .int .i64 k1.dx, .int .i64 k1.dy, .int .i64 k1.lx, .int .i64 k1.ly] 31)).heap[w7.heap.size]? = some (.cells #[.slice k1.aA k1.ab.length k1.aC, .slice k1.uA k1.au.length k1.uC, .slice k1.fA k1.fo.length k1.fC, .int .i64 k1.W, .int .i64 k1.H, .slice k1.gA k1.wl.length k1.gC, .int .i64 k1.dx, .int .i64 k1.dy, .int .i64 k1.lx, .int .i64 k1.ly] 31)) := Lib.hid (heap_alloc_new w7 _)
            have HW8 : Hid (Below W.heap.size W (w7.alloc (.cells #[.slice k1.aA k1.ab.length k1.aC, .slice k1.uA k1.au.length k1.uC, .slice k1.fA k1.fo.length k1.fC, .int .i64 k1.W, .int .i64 k1.H, .slice k1.gA k1.wl.length k1.gC, .int .i64 k1.dx, .int .i64 k1.dy, .int .i64 k1.lx, .int .i64 k1.ly] 31))) := Lib.hid (HW7.out.trans ((HA8.out).mono HW7.out.size)); have HC8 := Lib.hid (hkeep (HA8.out) HC7.out); have HD8 := Lib.hid (hkeep (HA8.out) HD7.out); have HR8 := Lib.hid (HR7.out.below (HA8.out) HW7.out.size); have HQ8 := Lib.hid (HQ7.out.below (HA8.out) HW7.out.size); have HL8 := Lib.hid (HL7.out.below (HA8.out) HW7.out.size)
            have HKR8 := Lib.hid ((HKR1.out.below HA8.out (Nat.le_refl _)).more HA8.out.size); have HRx8 := Lib.hid ((((HRx6.out.below HB7.out (Nat.le_refl _)).more HB7.out.size).below HA8.out (Nat.le_refl _)).more HA8.out.size); have HRy8 := Lib.hid ((((HRy6.out.below HB7.out (Nat.le_refl _)).more HB7.out.size).below HA8.out (Nat.le_refl _)).more HA8.out.size)
            have hc := cellOf' HC8.out; have lc := lt_of_block HC8.out; have hk := cellOf' HKB8.out; have lk := lt_of_block HKB8.out
            go_wp2_with (fail)
            generalize hw8 : w7.alloc (.cells #[.slice k1.aA k1.ab.length k1.aC, .slice k1.uA k1.au.length k1.uC, .slice k1.fA k1.fo.length k1.fC, .int .i64 k1.W, .int .i64 k1.H, .slice k1.gA k1.wl.length k1.gC, .int .i64 k1.dx, .int .i64 k1.dy, .int .i64 k1.lx, .int .i64 k1.ly] 31) = w8 at *
            clear hw8 hk lk hc lc
            have HSk1 := Lib.hid (HFw.out.sm.of_pl HK1.out)
            (with_reducible refine (same_c k1 c HKR8.out (HR8.out.more HW8.out.size) (Nat.le_refl _) HSk1.out true (by simp [HK1.out])).mono ?_); rintro e w9 ⟨rfl, hB9⟩
            have HB9 := Lib.hid hB9; clear hB9
            have HW9 : Hid (Below W.heap.size W w9) := Lib.hid (HW8.out.trans ((HB9.out).mono HW8.out.size)); have HC9 := Lib.hid (hkeep (HB9.out) HC8.out); have HD9 := Lib.hid (hkeep (HB9.out) HD8.out); have HR9 := Lib.hid (HR8.out.below (HB9.out) HW8.out.size); have HQ9 := Lib.hid (HQ8.out.below (HB9.out) HW8.out.size); have HL9 := Lib.hid (HL8.out.below (HB9.out) HW8.out.size)
            have HRxV := Lib.hid ((HRx8.out.below HB9.out (Nat.le_refl _)).more HB9.out.size); have HRyV := Lib.hid ((HRy8.out.below HB9.out (Nat.le_refl _)).more HB9.out.size)
            go_wp2_with (fail)
            have hS0 : Below w9.heap.size w9 w9.drew := (Below.refl _ _).drew
            refine wp_region_noPanic ?_
            refine wp_region_held_drew (S := fun w' => Below w9.heap.size w9 w') (by kernel_rfl) hS0 (fun _ => ?_)
            generalize w9.drew = v0 at hS0 ⊢
            refine wpAnyH_take (i := 0) (oi := ⟨some 64, Op.move (Operand.tmp 10), 39, _, _, none⟩) (v := ?vq30) rfl (by kernel_rfl) (by kernel_rfl) (by kernel_rfl) (fun _ _ _ h => h) (Or.inl ⟨by rfl, ?hq30⟩) hS0 ?rq30
            case hq30 => (intro wz hSw; go_simp <;> with_reducible rfl)
            (try simp only [Act.put, List.setIfInBounds_toArray, List.set_cons_zero, List.set_cons_succ])
            refine wpAnyH_take (i := 1) (oi := ⟨some 65, Op.binOp BinOp.eql 39 (Operand.tmp 64) (Operand.const (Value.int IntKind.i64 0)) 39, 4, _, _, none⟩) (v := ?vq31) rfl (by kernel_rfl) (by kernel_rfl) (by kernel_rfl) (fun _ _ _ h => h) (Or.inl ⟨by rfl, ?hq31⟩) hS0 ?rq31
            case hq31 => (intro wz hSw; go_simp <;> with_reducible rfl)
            (try simp only [Act.put, List.setIfInBounds_toArray, List.set_cons_zero, List.set_cons_succ])
            refine wpAnyH_take (i := 2) (oi := ⟨some 66, Op.move (Operand.tmp 65), 4, _, _, none⟩) (v := ?vq32) rfl (by kernel_rfl) (by kernel_rfl) (by kernel_rfl) (fun _ _ _ h => h) (Or.inl ⟨by rfl, ?hq32⟩) hS0 ?rq32
            case hq32 => (intro wz hSw; go_simp <;> with_reducible rfl)
            (try simp only [Act.put, List.setIfInBounds_toArray, List.set_cons_zero, List.set_cons_succ])
            refine wpAnyH_take (i := 3) (oi := ⟨some 67, Op.move (Operand.tmp 12), 39, _, _, some (2, true)⟩) (v := ?vq33) rfl (by kernel_rfl) (by kernel_rfl) (by kernel_rfl) (fun _ _ _ h => h) (Or.inl ⟨by rfl, ?hq33⟩) hS0 ?rq33
            case hq33 => (intro wz hSw; go_simp <;> with_reducible rfl)
            (try simp only [Act.put, List.setIfInBounds_toArray, List.set_cons_zero, List.set_cons_succ])
            refine wpAnyH_take (i := 4) (oi := ⟨some 68, Op.binOp BinOp.eql 39 (Operand.tmp 67) (Operand.const (Value.int IntKind.i64 0)) 39, 4, _, _, some (2, true)⟩) (v := ?vq34) rfl (by kernel_rfl) (by kernel_rfl) (by kernel_rfl) (fun _ _ _ h => h) (Or.inl ⟨by rfl, ?hq34⟩) hS0 ?rq34
            case hq34 => (intro wz hSw; go_simp <;> with_reducible rfl)
            (try simp only [Act.put, List.setIfInBounds_toArray, List.set_cons_zero, List.set_cons_succ])
            refine wpAnyH_take (i := 5) (oi := ⟨some 69, Op.pick (Operand.tmp 66) (Operand.tmp 68) (Operand.const (Value.bool false)), 4, _, _, none⟩) (v := ?vq35) rfl (by kernel_rfl) (by kernel_rfl) (by kernel_rfl) (fun _ _ _ h => h) (Or.inl ⟨by rfl, ?hq35⟩) hS0 ?rq35
            case hq35 => (intro wz hSw; go_simp <;> with_reducible rfl)
            (try simp only [Act.put, List.setIfInBounds_toArray, List.set_cons_zero, List.set_cons_succ])
            refine wpAnyH_take (i := 6) (oi := ⟨some 70, Op.move (Operand.tmp 69), 4, _, _, none⟩) (v := ?vq36) rfl (by kernel_rfl) (by kernel_rfl) (by kernel_rfl) (fun _ _ _ h => h) (Or.inl ⟨by rfl, ?hq36⟩) hS0 ?rq36
            case hq36 => (intro wz hSw; go_simp <;> with_reducible rfl)
            (try simp only [Act.put, List.setIfInBounds_toArray, List.set_cons_zero, List.set_cons_succ])
            refine wpAnyH_take (i := 7) (oi := ⟨some 71, Op.move (Operand.tmp 9), 38, _, _, some (6, true)⟩) (v := undef) rfl (by kernel_rfl) (by kernel_rfl) (by kernel_rfl) (fun _ _ _ h => h) (Or.inr ⟨by rfl, rfl⟩) hS0 ?rq37
            (try simp only [Act.put, List.setIfInBounds_toArray, List.set_cons_zero, List.set_cons_succ])
            refine wpAnyH_take (i := 8) (oi := ⟨some 72, Op.convert 38 9 (Operand.tmp 71), 9, _, _, some (6, true)⟩) (v := undef) rfl (by kernel_rfl) (by kernel_rfl) (by kernel_rfl) (fun _ _ _ h => h) (Or.inr ⟨by rfl, rfl⟩) hS0 ?rq38
            (try simp only [Act.put, List.setIfInBounds_toArray, List.set_cons_zero, List.set_cons_succ])
            refine wpAnyH_take (i := 9) (oi := ⟨some 73, Op.move (Operand.tmp 11), 38, _, _, some (6, true)⟩) (v := undef) rfl (by kernel_rfl) (by kernel_rfl) (by kernel_rfl) (fun _ _ _ h => h) (Or.inr ⟨by rfl, rfl⟩) hS0 ?rq39
            (try simp only [Act.put, List.setIfInBounds_toArray, List.set_cons_zero, List.set_cons_succ])
            refine wpAnyH_take (i := 10) (oi := ⟨some 74, Op.convert 38 9 (Operand.tmp 73), 9, _, _, some (6, true)⟩) (v := undef) rfl (by kernel_rfl) (by kernel_rfl) (by kernel_rfl) (fun _ _ _ h => h) (Or.inr ⟨by rfl, rfl⟩) hS0 ?rq310
            (try simp only [Act.put, List.setIfInBounds_toArray, List.set_cons_zero, List.set_cons_succ])
            refine wpAnyH_take (i := 11) (oi := ⟨some 75, Op.binOp BinOp.eql 9 (Operand.tmp 72) (Operand.tmp 74) 9, 4, _, _, some (6, true)⟩) (v := undef) rfl (by kernel_rfl) (by kernel_rfl) (by kernel_rfl) (fun _ _ _ h => h) (Or.inr ⟨by rfl, rfl⟩) hS0 ?rq311
            (try simp only [Act.put, List.setIfInBounds_toArray, List.set_cons_zero, List.set_cons_succ])
            refine wpAnyH_take (i := 12) (oi := ⟨some 76, Op.load 31 (Operand.tmp 3), 31, _, _, some (6, true)⟩) (v := undef) rfl (by kernel_rfl) (by kernel_rfl) (by kernel_rfl) (fun _ _ _ h => h) (Or.inr ⟨by rfl, rfl⟩) hS0 ?rq312
            (try simp only [Act.put, List.setIfInBounds_toArray, List.set_cons_zero, List.set_cons_succ])
            refine wpAnyH_take (i := 13) (oi := ⟨some 77, Op.load 31 (Operand.tmp 4), 31, _, _, some (6, true)⟩) (v := undef) rfl (by kernel_rfl) (by kernel_rfl) (by kernel_rfl) (fun _ _ _ h => h) (Or.inr ⟨by rfl, rfl⟩) hS0 ?rq313
            (try simp only [Act.put, List.setIfInBounds_toArray, List.set_cons_zero, List.set_cons_succ])
            refine wpAnyH_take (i := 14) (oi := ⟨some 78, Op.call { callee := Callee.value (Operand.func 21), args := #[Operand.tmp 76, Operand.tmp 77], argTypes := #[31, 31] }, 4, _, _, some (6, true)⟩) (v := undef) rfl (by kernel_rfl) (by kernel_rfl) (by kernel_rfl) (fun _ _ _ h => h) (Or.inr ⟨by rfl, rfl⟩) hS0 ?rq314
            (try simp only [Act.put, List.setIfInBounds_toArray, List.set_cons_zero, List.set_cons_succ])
            refine wpAnyH_take (i := 15) (oi := ⟨some 79, Op.binOp BinOp.neq 4 (Operand.tmp 75) (Operand.tmp 78) 4, 4, _, _, some (6, true)⟩) (v := undef) rfl (by kernel_rfl) (by kernel_rfl) (by kernel_rfl) (fun _ _ _ h => h) (Or.inr ⟨by rfl, rfl⟩) hS0 ?rq315
            (try simp only [Act.put, List.setIfInBounds_toArray, List.set_cons_zero, List.set_cons_succ])
            refine wpAnyH_take (i := 16) (oi := ⟨some 80, Op.pick (Operand.tmp 70) (Operand.tmp 79) (Operand.const (Value.bool false)), 4, _, _, none⟩) (v := ?vq316) rfl (by kernel_rfl) (by kernel_rfl) (by kernel_rfl) (fun _ _ _ h => h) (Or.inl ⟨by rfl, ?hq316⟩) hS0 ?rq316
            case hq316 => (intro wz hSw; go_simp <;> with_reducible rfl)
            (try simp only [Act.put, List.setIfInBounds_toArray, List.set_cons_zero, List.set_cons_succ])
            refine wpAnyH_done (by kernel_rfl) ?_ _
            refine NoPanic.normal ?_
            have HWE : Hid (Below W.heap.size W v0) := Lib.hid (HW9.out.trans ((hS0).mono HW9.out.size))
            have HLE := Lib.hid (HL9.out.below (hS0) HW9.out.size)
            go_wp2_with (fail)
            (with_reducible refine (dec_short HLE.out HWE.out.size HBl.out HCl.out HL4k.out).mono ?_)
            rintro e u1 (⟨er, her, rfl, HU1⟩ | ⟨k, rfl, HK, HKr, HU1⟩)
            · have HZ1 : Hid (Below W.heap.size W u1) := Lib.hid (HWE.out.trans (HU1.out.mono HWE.out.size))
              rcases her with rfl | rfl
              · go_wp2_with (fail)
                (with_reducible refine (same_zero _).mono ?_); rintro e u2 ⟨rfl, hU2⟩
                go_wp2
                go_ret
                exact ⟨rfl, (HZ1.out.alloc HZ1.out.size _).trans (hU2.mono (HZ1.out.alloc HZ1.out.size _).size)⟩
              · go_wp2_with (fail)
                (with_reducible refine (same_zero _).mono ?_); rintro e u2 ⟨rfl, hU2⟩
                go_wp2
                go_ret
                exact ⟨rfl, (HZ1.out.alloc HZ1.out.size _).trans (hU2.mono (HZ1.out.alloc HZ1.out.size _).size)⟩
            · obtain ⟨kr, ke, kf, kl⟩ := HK.out
              have HKt := Lib.hid kr; have HKe := Lib.hid ke; have HKf := Lib.hid kf; have HKl := Lib.hid kl
              clear kr ke kf kl HK
              have HZ1 : Hid (Below W.heap.size W u1) := Lib.hid (HWE.out.trans (HU1.out.mono HWE.out.size))
              have HKb : Hid ((u1.alloc (.cells #[.slice k.aA k.ab.length k.aC, .slice k.uA k.au.length k.uC, .slice k.fA k.fo.length k.fC, .int .i64 k.W, .int .i64 k.H, .slice k.gA k.wl.length k.gC, .int .i64 k.dx, .int .i64 k.dy, .int .i64 k.lx, .int .i64 k.ly] 31)).heap[u1.heap.size]? = some (.cells #[.slice k.aA k.ab.length k.aC, .slice k.uA k.au.length k.uC, .slice k.fA k.fo.length k.fC, .int .i64 k.W, .int .i64 k.H, .slice k.gA k.wl.length k.gC, .int .i64 k.dx, .int .i64 k.dy, .int .i64 k.lx, .int .i64 k.ly] 31)) := Lib.hid (heap_alloc_new u1 _)
              have HAl : Hid (Below u1.heap.size u1 (u1.alloc (.cells #[.slice k.aA k.ab.length k.aC, .slice k.uA k.au.length k.uC, .slice k.fA k.fo.length k.fC, .int .i64 k.W, .int .i64 k.H, .slice k.gA k.wl.length k.gC, .int .i64 k.dx, .int .i64 k.dy, .int .i64 k.lx, .int .i64 k.ly] 31))) := Lib.hid ((Below.refl _ _).alloc (Nat.le_refl _) _)
              have HKr2 := Lib.hid ((HKr.out.below HAl.out (Nat.le_refl _)).more HAl.out.size)
              have HZ2 : Hid (Below W.heap.size W (u1.alloc (.cells #[.slice k.aA k.ab.length k.aC, .slice k.uA k.au.length k.uC, .slice k.fA k.fo.length k.fC, .int .i64 k.W, .int .i64 k.H, .slice k.gA k.wl.length k.gC, .int .i64 k.dx, .int .i64 k.dy, .int .i64 k.lx, .int .i64 k.ly] 31))) := Lib.hid (HZ1.out.trans (HAl.out.mono HZ1.out.size))
              have HLl : Hid (Rd .u8 (u1.alloc (.cells #[.slice k.aA k.ab.length k.aC, .slice k.uA k.au.length k.uC, .slice k.fA k.fo.length k.fC, .int .i64 k.W, .int .i64 k.H, .slice k.gA k.wl.length k.gC, .int .i64 k.dx, .int .i64 k.dy, .int .i64 k.lx, .int .i64 k.ly] 31)) W.heap.size A l) := Lib.hid ((HLE.out.below HU1.out HWE.out.size).below HAl.out HZ1.out.size)
              have hk := cellOf' HKb.out; have lk := lt_of_block HKb.out
              go_wp2_with (fail)
              generalize hu : u1.alloc (.cells #[.slice k.aA k.ab.length k.aC, .slice k.uA k.au.length k.uC, .slice k.fA k.fo.length k.fC, .int .i64 k.W, .int .i64 k.H, .slice k.gA k.wl.length k.gC, .int .i64 k.dx, .int .i64 k.dy, .int .i64 k.lx, .int .i64 k.ly] 31) = u2 at *
              clear hu hk lk
              have HSk := Lib.hid (sm_flat (d := k) (by have := HKl.out; omega))
              (with_reducible refine (encode_c k HKr2.out (Nat.le_refl _) HSk.out (fun _ => HKf.out) (by have := HKl.out; omega)).mono ?_); rintro e u3 ⟨lz, Az, cz, ez, rfl, HHz, HOz, HU3⟩
              rcases HHz.out with ⟨_, z1, z2⟩ | ⟨z0, _⟩
              · subst z1
                have HLz := Lib.hid z2; clear z2
                have HKb3 := Lib.hid (hkeep HU3.out HKb.out)
                have HKr3 := Lib.hid (HKr2.out.below HU3.out (Nat.le_refl _))
                have HZ3 : Hid (Below W.heap.size W u3) := Lib.hid (HZ2.out.trans (HU3.out.mono HZ2.out.size))
                have HRz := Lib.hid (Own.rd HOz.out)
                have HLl3 := Lib.hid (HLl.out.below HU3.out HZ2.out.size)
                have hk := cellOf' HKb3.out; have lk := lt_of_block HKb3.out
                have hbq := beq_str (l := lz) (m := l) (by rw [HLz.out]; exact en_byt _) HBl.out true (by simp [HLz.out, ← HKe.out])
                go_wp2_with (fail)
                (with_reducible refine (right_c HKr3.out HU3.out.size HSk.out true (by simp [HKt.out])).mono ?_); rintro e u4 ⟨rfl, hU4⟩
                have h1 := conv cz ((HRz.out.below hU4 (Nat.le_refl _)))
                have h2 := conv cb (HLl3.out.below hU4 HZ3.out.size)
                clear hk lk
                go_wp2
                go_ret
                exact ⟨rfl, HZ3.out.trans (hU4.mono HZ3.out.size)⟩
              · exact absurd HKt.out z0
        · subst h1
          have HNc := Lib.hid nc; have HLx := Lib.hid h2; clear nc h2
          rcases HH5.out with ⟨nd, h1, h2⟩ | ⟨nd, h1, h2⟩
          · subst h1
            have HNd := Lib.hid nd; have HLy := Lib.hid h2; clear nd h2
            go_wp2_with (fail)
            (with_reducible refine (right_c HR5.out HW5.out.size HFw.out.sm false (by simp [HNc.out])).mono ?_); rintro e w6 ⟨rfl, hB6⟩
            have HB6 := Lib.hid hB6; clear hB6 hc lc
            have HW6 : Hid (Below W.heap.size W w6) := Lib.hid (HW5.out.trans ((HB6.out).mono HW5.out.size)); have HC6 := Lib.hid (hkeep (HB6.out) HC5.out); have HD6 := Lib.hid (hkeep (HB6.out) HD5.out); have HR6 := Lib.hid (HR5.out.below (HB6.out) HW5.out.size); have HQ6 := Lib.hid (HQ5.out.below (HB6.out) HW5.out.size); have HL6 := Lib.hid (HL5.out.below (HB6.out) HW5.out.size)
            have HRx6 := Lib.hid ((HRx5.out.below HB6.out (Nat.le_refl _)).more HB6.out.size); have HRy6 := Lib.hid ((HRy5.out.below HB6.out (Nat.le_refl _)).more HB6.out.size)
            have HRxV := HRx6; have HRyV := HRy6
            go_wp2_with (fail)
            have hS0 : Below w6.heap.size w6 w6.drew := (Below.refl _ _).drew
            refine wp_region_noPanic ?_
            refine wp_region_held_drew (S := fun w' => Below w6.heap.size w6 w') (by kernel_rfl) hS0 (fun _ => ?_)
            generalize w6.drew = v0 at hS0 ⊢
            refine wpAnyH_take (i := 0) (oi := ⟨some 64, Op.move (Operand.tmp 10), 39, _, _, none⟩) (v := ?vq40) rfl (by kernel_rfl) (by kernel_rfl) (by kernel_rfl) (fun _ _ _ h => h) (Or.inl ⟨by rfl, ?hq40⟩) hS0 ?rq40
            case hq40 => (intro wz hSw; go_simp <;> with_reducible rfl)
            (try simp only [Act.put, List.setIfInBounds_toArray, List.set_cons_zero, List.set_cons_succ])
            refine wpAnyH_take (i := 1) (oi := ⟨some 65, Op.binOp BinOp.eql 39 (Operand.tmp 64) (Operand.const (Value.int IntKind.i64 0)) 39, 4, _, _, none⟩) (v := ?vq41) rfl (by kernel_rfl) (by kernel_rfl) (by kernel_rfl) (fun _ _ _ h => h) (Or.inl ⟨by rfl, ?hq41⟩) hS0 ?rq41
            case hq41 => (intro wz hSw; go_simp <;> with_reducible rfl)
            (try simp only [Act.put, List.setIfInBounds_toArray, List.set_cons_zero, List.set_cons_succ])
            refine wpAnyH_take (i := 2) (oi := ⟨some 66, Op.move (Operand.tmp 65), 4, _, _, none⟩) (v := ?vq42) rfl (by kernel_rfl) (by kernel_rfl) (by kernel_rfl) (fun _ _ _ h => h) (Or.inl ⟨by rfl, ?hq42⟩) hS0 ?rq42
            case hq42 => (intro wz hSw; go_simp <;> with_reducible rfl)
            (try simp only [Act.put, List.setIfInBounds_toArray, List.set_cons_zero, List.set_cons_succ])
            refine wpAnyH_take (i := 3) (oi := ⟨some 67, Op.move (Operand.tmp 12), 39, _, _, some (2, true)⟩) (v := undef) rfl (by kernel_rfl) (by kernel_rfl) (by kernel_rfl) (fun _ _ _ h => h) (Or.inr ⟨by rfl, rfl⟩) hS0 ?rq43
            (try simp only [Act.put, List.setIfInBounds_toArray, List.set_cons_zero, List.set_cons_succ])
            refine wpAnyH_take (i := 4) (oi := ⟨some 68, Op.binOp BinOp.eql 39 (Operand.tmp 67) (Operand.const (Value.int IntKind.i64 0)) 39, 4, _, _, some (2, true)⟩) (v := undef) rfl (by kernel_rfl) (by kernel_rfl) (by kernel_rfl) (fun _ _ _ h => h) (Or.inr ⟨by rfl, rfl⟩) hS0 ?rq44
            (try simp only [Act.put, List.setIfInBounds_toArray, List.set_cons_zero, List.set_cons_succ])
            refine wpAnyH_take (i := 5) (oi := ⟨some 69, Op.pick (Operand.tmp 66) (Operand.tmp 68) (Operand.const (Value.bool false)), 4, _, _, none⟩) (v := ?vq45) rfl (by kernel_rfl) (by kernel_rfl) (by kernel_rfl) (fun _ _ _ h => h) (Or.inl ⟨by rfl, ?hq45⟩) hS0 ?rq45
            case hq45 => (intro wz hSw; go_simp <;> with_reducible rfl)
            (try simp only [Act.put, List.setIfInBounds_toArray, List.set_cons_zero, List.set_cons_succ])
            refine wpAnyH_take (i := 6) (oi := ⟨some 70, Op.move (Operand.tmp 69), 4, _, _, none⟩) (v := ?vq46) rfl (by kernel_rfl) (by kernel_rfl) (by kernel_rfl) (fun _ _ _ h => h) (Or.inl ⟨by rfl, ?hq46⟩) hS0 ?rq46
            case hq46 => (intro wz hSw; go_simp <;> with_reducible rfl)
            (try simp only [Act.put, List.setIfInBounds_toArray, List.set_cons_zero, List.set_cons_succ])
            refine wpAnyH_take (i := 7) (oi := ⟨some 71, Op.move (Operand.tmp 9), 38, _, _, some (6, true)⟩) (v := undef) rfl (by kernel_rfl) (by kernel_rfl) (by kernel_rfl) (fun _ _ _ h => h) (Or.inr ⟨by rfl, rfl⟩) hS0 ?rq47
            (try simp only [Act.put, List.setIfInBounds_toArray, List.set_cons_zero, List.set_cons_succ])
            refine wpAnyH_take (i := 8) (oi := ⟨some 72, Op.convert 38 9 (Operand.tmp 71), 9, _, _, some (6, true)⟩) (v := undef) rfl (by kernel_rfl) (by kernel_rfl) (by kernel_rfl) (fun _ _ _ h => h) (Or.inr ⟨by rfl, rfl⟩) hS0 ?rq48
            (try simp only [Act.put, List.setIfInBounds_toArray, List.set_cons_zero, List.set_cons_succ])
            refine wpAnyH_take (i := 9) (oi := ⟨some 73, Op.move (Operand.tmp 11), 38, _, _, some (6, true)⟩) (v := undef) rfl (by kernel_rfl) (by kernel_rfl) (by kernel_rfl) (fun _ _ _ h => h) (Or.inr ⟨by rfl, rfl⟩) hS0 ?rq49
            (try simp only [Act.put, List.setIfInBounds_toArray, List.set_cons_zero, List.set_cons_succ])
            refine wpAnyH_take (i := 10) (oi := ⟨some 74, Op.convert 38 9 (Operand.tmp 73), 9, _, _, some (6, true)⟩) (v := undef) rfl (by kernel_rfl) (by kernel_rfl) (by kernel_rfl) (fun _ _ _ h => h) (Or.inr ⟨by rfl, rfl⟩) hS0 ?rq410
            (try simp only [Act.put, List.setIfInBounds_toArray, List.set_cons_zero, List.set_cons_succ])
            refine wpAnyH_take (i := 11) (oi := ⟨some 75, Op.binOp BinOp.eql 9 (Operand.tmp 72) (Operand.tmp 74) 9, 4, _, _, some (6, true)⟩) (v := undef) rfl (by kernel_rfl) (by kernel_rfl) (by kernel_rfl) (fun _ _ _ h => h) (Or.inr ⟨by rfl, rfl⟩) hS0 ?rq411
            (try simp only [Act.put, List.setIfInBounds_toArray, List.set_cons_zero, List.set_cons_succ])
            refine wpAnyH_take (i := 12) (oi := ⟨some 76, Op.load 31 (Operand.tmp 3), 31, _, _, some (6, true)⟩) (v := undef) rfl (by kernel_rfl) (by kernel_rfl) (by kernel_rfl) (fun _ _ _ h => h) (Or.inr ⟨by rfl, rfl⟩) hS0 ?rq412
            (try simp only [Act.put, List.setIfInBounds_toArray, List.set_cons_zero, List.set_cons_succ])
            refine wpAnyH_take (i := 13) (oi := ⟨some 77, Op.load 31 (Operand.tmp 4), 31, _, _, some (6, true)⟩) (v := undef) rfl (by kernel_rfl) (by kernel_rfl) (by kernel_rfl) (fun _ _ _ h => h) (Or.inr ⟨by rfl, rfl⟩) hS0 ?rq413
            (try simp only [Act.put, List.setIfInBounds_toArray, List.set_cons_zero, List.set_cons_succ])
            refine wpAnyH_take (i := 14) (oi := ⟨some 78, Op.call { callee := Callee.value (Operand.func 21), args := #[Operand.tmp 76, Operand.tmp 77], argTypes := #[31, 31] }, 4, _, _, some (6, true)⟩) (v := undef) rfl (by kernel_rfl) (by kernel_rfl) (by kernel_rfl) (fun _ _ _ h => h) (Or.inr ⟨by rfl, rfl⟩) hS0 ?rq414
            (try simp only [Act.put, List.setIfInBounds_toArray, List.set_cons_zero, List.set_cons_succ])
            refine wpAnyH_take (i := 15) (oi := ⟨some 79, Op.binOp BinOp.neq 4 (Operand.tmp 75) (Operand.tmp 78) 4, 4, _, _, some (6, true)⟩) (v := undef) rfl (by kernel_rfl) (by kernel_rfl) (by kernel_rfl) (fun _ _ _ h => h) (Or.inr ⟨by rfl, rfl⟩) hS0 ?rq415
            (try simp only [Act.put, List.setIfInBounds_toArray, List.set_cons_zero, List.set_cons_succ])
            refine wpAnyH_take (i := 16) (oi := ⟨some 80, Op.pick (Operand.tmp 70) (Operand.tmp 79) (Operand.const (Value.bool false)), 4, _, _, none⟩) (v := ?vq416) rfl (by kernel_rfl) (by kernel_rfl) (by kernel_rfl) (fun _ _ _ h => h) (Or.inl ⟨by rfl, ?hq416⟩) hS0 ?rq416
            case hq416 => (intro wz hSw; go_simp <;> with_reducible rfl)
            (try simp only [Act.put, List.setIfInBounds_toArray, List.set_cons_zero, List.set_cons_succ])
            refine wpAnyH_done (by kernel_rfl) ?_ _
            refine NoPanic.normal ?_
            have HWE : Hid (Below W.heap.size W v0) := Lib.hid (HW6.out.trans ((hS0).mono HW6.out.size))
            have HLE := Lib.hid (HL6.out.below (hS0) HW6.out.size)
            go_wp2_with (fail)
            (with_reducible refine (dec_short HLE.out HWE.out.size HBl.out HCl.out HL4k.out).mono ?_)
            rintro e u1 (⟨er, her, rfl, HU1⟩ | ⟨k, rfl, HK, HKr, HU1⟩)
            · have HZ1 : Hid (Below W.heap.size W u1) := Lib.hid (HWE.out.trans (HU1.out.mono HWE.out.size))
              rcases her with rfl | rfl
              · go_wp2_with (fail)
                (with_reducible refine (same_zero _).mono ?_); rintro e u2 ⟨rfl, hU2⟩
                go_wp2
                go_ret
                exact ⟨rfl, (HZ1.out.alloc HZ1.out.size _).trans (hU2.mono (HZ1.out.alloc HZ1.out.size _).size)⟩
              · go_wp2_with (fail)
                (with_reducible refine (same_zero _).mono ?_); rintro e u2 ⟨rfl, hU2⟩
                go_wp2
                go_ret
                exact ⟨rfl, (HZ1.out.alloc HZ1.out.size _).trans (hU2.mono (HZ1.out.alloc HZ1.out.size _).size)⟩
            · obtain ⟨kr, ke, kf, kl⟩ := HK.out
              have HKt := Lib.hid kr; have HKe := Lib.hid ke; have HKf := Lib.hid kf; have HKl := Lib.hid kl
              clear kr ke kf kl HK
              have HZ1 : Hid (Below W.heap.size W u1) := Lib.hid (HWE.out.trans (HU1.out.mono HWE.out.size))
              have HKb : Hid ((u1.alloc (.cells #[.slice k.aA k.ab.length k.aC, .slice k.uA k.au.length k.uC, .slice k.fA k.fo.length k.fC, .int .i64 k.W, .int .i64 k.H, .slice k.gA k.wl.length k.gC, .int .i64 k.dx, .int .i64 k.dy, .int .i64 k.lx, .int .i64 k.ly] 31)).heap[u1.heap.size]? = some (.cells #[.slice k.aA k.ab.length k.aC, .slice k.uA k.au.length k.uC, .slice k.fA k.fo.length k.fC, .int .i64 k.W, .int .i64 k.H, .slice k.gA k.wl.length k.gC, .int .i64 k.dx, .int .i64 k.dy, .int .i64 k.lx, .int .i64 k.ly] 31)) := Lib.hid (heap_alloc_new u1 _)
              have HAl : Hid (Below u1.heap.size u1 (u1.alloc (.cells #[.slice k.aA k.ab.length k.aC, .slice k.uA k.au.length k.uC, .slice k.fA k.fo.length k.fC, .int .i64 k.W, .int .i64 k.H, .slice k.gA k.wl.length k.gC, .int .i64 k.dx, .int .i64 k.dy, .int .i64 k.lx, .int .i64 k.ly] 31))) := Lib.hid ((Below.refl _ _).alloc (Nat.le_refl _) _)
              have HKr2 := Lib.hid ((HKr.out.below HAl.out (Nat.le_refl _)).more HAl.out.size)
              have HZ2 : Hid (Below W.heap.size W (u1.alloc (.cells #[.slice k.aA k.ab.length k.aC, .slice k.uA k.au.length k.uC, .slice k.fA k.fo.length k.fC, .int .i64 k.W, .int .i64 k.H, .slice k.gA k.wl.length k.gC, .int .i64 k.dx, .int .i64 k.dy, .int .i64 k.lx, .int .i64 k.ly] 31))) := Lib.hid (HZ1.out.trans (HAl.out.mono HZ1.out.size))
              have HLl : Hid (Rd .u8 (u1.alloc (.cells #[.slice k.aA k.ab.length k.aC, .slice k.uA k.au.length k.uC, .slice k.fA k.fo.length k.fC, .int .i64 k.W, .int .i64 k.H, .slice k.gA k.wl.length k.gC, .int .i64 k.dx, .int .i64 k.dy, .int .i64 k.lx, .int .i64 k.ly] 31)) W.heap.size A l) := Lib.hid ((HLE.out.below HU1.out HWE.out.size).below HAl.out HZ1.out.size)
              have hk := cellOf' HKb.out; have lk := lt_of_block HKb.out
              go_wp2_with (fail)
              generalize hu : u1.alloc (.cells #[.slice k.aA k.ab.length k.aC, .slice k.uA k.au.length k.uC, .slice k.fA k.fo.length k.fC, .int .i64 k.W, .int .i64 k.H, .slice k.gA k.wl.length k.gC, .int .i64 k.dx, .int .i64 k.dy, .int .i64 k.lx, .int .i64 k.ly] 31) = u2 at *
              clear hu hk lk
              have HSk := Lib.hid (sm_flat (d := k) (by have := HKl.out; omega))
              (with_reducible refine (encode_c k HKr2.out (Nat.le_refl _) HSk.out (fun _ => HKf.out) (by have := HKl.out; omega)).mono ?_); rintro e u3 ⟨lz, Az, cz, ez, rfl, HHz, HOz, HU3⟩
              rcases HHz.out with ⟨_, z1, z2⟩ | ⟨z0, _⟩
              · subst z1
                have HLz := Lib.hid z2; clear z2
                have HKb3 := Lib.hid (hkeep HU3.out HKb.out)
                have HKr3 := Lib.hid (HKr2.out.below HU3.out (Nat.le_refl _))
                have HZ3 : Hid (Below W.heap.size W u3) := Lib.hid (HZ2.out.trans (HU3.out.mono HZ2.out.size))
                have HRz := Lib.hid (Own.rd HOz.out)
                have HLl3 := Lib.hid (HLl.out.below HU3.out HZ2.out.size)
                have hk := cellOf' HKb3.out; have lk := lt_of_block HKb3.out
                have hbq := beq_str (l := lz) (m := l) (by rw [HLz.out]; exact en_byt _) HBl.out true (by simp [HLz.out, ← HKe.out])
                go_wp2_with (fail)
                (with_reducible refine (right_c HKr3.out HU3.out.size HSk.out true (by simp [HKt.out])).mono ?_); rintro e u4 ⟨rfl, hU4⟩
                have h1 := conv cz ((HRz.out.below hU4 (Nat.le_refl _)))
                have h2 := conv cb (HLl3.out.below hU4 HZ3.out.size)
                clear hk lk
                go_wp2
                go_ret
                exact ⟨rfl, HZ3.out.trans (hU4.mono HZ3.out.size)⟩
              · exact absurd HKt.out z0
          · subst h1
            have HNd := Lib.hid nd; have HLy := Lib.hid h2; clear nd h2
            go_wp2_with (fail)
            (with_reducible refine (right_c HR5.out HW5.out.size HFw.out.sm false (by simp [HNc.out])).mono ?_); rintro e w6 ⟨rfl, hB6⟩
            have HB6 := Lib.hid hB6; clear hB6 hc lc
            have HW6 : Hid (Below W.heap.size W w6) := Lib.hid (HW5.out.trans ((HB6.out).mono HW5.out.size)); have HC6 := Lib.hid (hkeep (HB6.out) HC5.out); have HD6 := Lib.hid (hkeep (HB6.out) HD5.out); have HR6 := Lib.hid (HR5.out.below (HB6.out) HW5.out.size); have HQ6 := Lib.hid (HQ5.out.below (HB6.out) HW5.out.size); have HL6 := Lib.hid (HL5.out.below (HB6.out) HW5.out.size)
            have HRx6 := Lib.hid ((HRx5.out.below HB6.out (Nat.le_refl _)).more HB6.out.size); have HRy6 := Lib.hid ((HRy5.out.below HB6.out (Nat.le_refl _)).more HB6.out.size)
            have HRxV := HRx6; have HRyV := HRy6
            go_wp2_with (fail)
            have hS0 : Below w6.heap.size w6 w6.drew := (Below.refl _ _).drew
            refine wp_region_noPanic ?_
            refine wp_region_held_drew (S := fun w' => Below w6.heap.size w6 w') (by kernel_rfl) hS0 (fun _ => ?_)
            generalize w6.drew = v0 at hS0 ⊢
            refine wpAnyH_take (i := 0) (oi := ⟨some 64, Op.move (Operand.tmp 10), 39, _, _, none⟩) (v := ?vq50) rfl (by kernel_rfl) (by kernel_rfl) (by kernel_rfl) (fun _ _ _ h => h) (Or.inl ⟨by rfl, ?hq50⟩) hS0 ?rq50
            case hq50 => (intro wz hSw; go_simp <;> with_reducible rfl)
            (try simp only [Act.put, List.setIfInBounds_toArray, List.set_cons_zero, List.set_cons_succ])
            refine wpAnyH_take (i := 1) (oi := ⟨some 65, Op.binOp BinOp.eql 39 (Operand.tmp 64) (Operand.const (Value.int IntKind.i64 0)) 39, 4, _, _, none⟩) (v := ?vq51) rfl (by kernel_rfl) (by kernel_rfl) (by kernel_rfl) (fun _ _ _ h => h) (Or.inl ⟨by rfl, ?hq51⟩) hS0 ?rq51
            case hq51 => (intro wz hSw; go_simp <;> with_reducible rfl)
            (try simp only [Act.put, List.setIfInBounds_toArray, List.set_cons_zero, List.set_cons_succ])
            refine wpAnyH_take (i := 2) (oi := ⟨some 66, Op.move (Operand.tmp 65), 4, _, _, none⟩) (v := ?vq52) rfl (by kernel_rfl) (by kernel_rfl) (by kernel_rfl) (fun _ _ _ h => h) (Or.inl ⟨by rfl, ?hq52⟩) hS0 ?rq52
            case hq52 => (intro wz hSw; go_simp <;> with_reducible rfl)
            (try simp only [Act.put, List.setIfInBounds_toArray, List.set_cons_zero, List.set_cons_succ])
            refine wpAnyH_take (i := 3) (oi := ⟨some 67, Op.move (Operand.tmp 12), 39, _, _, some (2, true)⟩) (v := undef) rfl (by kernel_rfl) (by kernel_rfl) (by kernel_rfl) (fun _ _ _ h => h) (Or.inr ⟨by rfl, rfl⟩) hS0 ?rq53
            (try simp only [Act.put, List.setIfInBounds_toArray, List.set_cons_zero, List.set_cons_succ])
            refine wpAnyH_take (i := 4) (oi := ⟨some 68, Op.binOp BinOp.eql 39 (Operand.tmp 67) (Operand.const (Value.int IntKind.i64 0)) 39, 4, _, _, some (2, true)⟩) (v := undef) rfl (by kernel_rfl) (by kernel_rfl) (by kernel_rfl) (fun _ _ _ h => h) (Or.inr ⟨by rfl, rfl⟩) hS0 ?rq54
            (try simp only [Act.put, List.setIfInBounds_toArray, List.set_cons_zero, List.set_cons_succ])
            refine wpAnyH_take (i := 5) (oi := ⟨some 69, Op.pick (Operand.tmp 66) (Operand.tmp 68) (Operand.const (Value.bool false)), 4, _, _, none⟩) (v := ?vq55) rfl (by kernel_rfl) (by kernel_rfl) (by kernel_rfl) (fun _ _ _ h => h) (Or.inl ⟨by rfl, ?hq55⟩) hS0 ?rq55
            case hq55 => (intro wz hSw; go_simp <;> with_reducible rfl)
            (try simp only [Act.put, List.setIfInBounds_toArray, List.set_cons_zero, List.set_cons_succ])
            refine wpAnyH_take (i := 6) (oi := ⟨some 70, Op.move (Operand.tmp 69), 4, _, _, none⟩) (v := ?vq56) rfl (by kernel_rfl) (by kernel_rfl) (by kernel_rfl) (fun _ _ _ h => h) (Or.inl ⟨by rfl, ?hq56⟩) hS0 ?rq56
            case hq56 => (intro wz hSw; go_simp <;> with_reducible rfl)
            (try simp only [Act.put, List.setIfInBounds_toArray, List.set_cons_zero, List.set_cons_succ])
            refine wpAnyH_take (i := 7) (oi := ⟨some 71, Op.move (Operand.tmp 9), 38, _, _, some (6, true)⟩) (v := undef) rfl (by kernel_rfl) (by kernel_rfl) (by kernel_rfl) (fun _ _ _ h => h) (Or.inr ⟨by rfl, rfl⟩) hS0 ?rq57
            (try simp only [Act.put, List.setIfInBounds_toArray, List.set_cons_zero, List.set_cons_succ])
            refine wpAnyH_take (i := 8) (oi := ⟨some 72, Op.convert 38 9 (Operand.tmp 71), 9, _, _, some (6, true)⟩) (v := undef) rfl (by kernel_rfl) (by kernel_rfl) (by kernel_rfl) (fun _ _ _ h => h) (Or.inr ⟨by rfl, rfl⟩) hS0 ?rq58
            (try simp only [Act.put, List.setIfInBounds_toArray, List.set_cons_zero, List.set_cons_succ])
            refine wpAnyH_take (i := 9) (oi := ⟨some 73, Op.move (Operand.tmp 11), 38, _, _, some (6, true)⟩) (v := undef) rfl (by kernel_rfl) (by kernel_rfl) (by kernel_rfl) (fun _ _ _ h => h) (Or.inr ⟨by rfl, rfl⟩) hS0 ?rq59
            (try simp only [Act.put, List.setIfInBounds_toArray, List.set_cons_zero, List.set_cons_succ])
            refine wpAnyH_take (i := 10) (oi := ⟨some 74, Op.convert 38 9 (Operand.tmp 73), 9, _, _, some (6, true)⟩) (v := undef) rfl (by kernel_rfl) (by kernel_rfl) (by kernel_rfl) (fun _ _ _ h => h) (Or.inr ⟨by rfl, rfl⟩) hS0 ?rq510
            (try simp only [Act.put, List.setIfInBounds_toArray, List.set_cons_zero, List.set_cons_succ])
            refine wpAnyH_take (i := 11) (oi := ⟨some 75, Op.binOp BinOp.eql 9 (Operand.tmp 72) (Operand.tmp 74) 9, 4, _, _, some (6, true)⟩) (v := undef) rfl (by kernel_rfl) (by kernel_rfl) (by kernel_rfl) (fun _ _ _ h => h) (Or.inr ⟨by rfl, rfl⟩) hS0 ?rq511
            (try simp only [Act.put, List.setIfInBounds_toArray, List.set_cons_zero, List.set_cons_succ])
            refine wpAnyH_take (i := 12) (oi := ⟨some 76, Op.load 31 (Operand.tmp 3), 31, _, _, some (6, true)⟩) (v := undef) rfl (by kernel_rfl) (by kernel_rfl) (by kernel_rfl) (fun _ _ _ h => h) (Or.inr ⟨by rfl, rfl⟩) hS0 ?rq512
            (try simp only [Act.put, List.setIfInBounds_toArray, List.set_cons_zero, List.set_cons_succ])
            refine wpAnyH_take (i := 13) (oi := ⟨some 77, Op.load 31 (Operand.tmp 4), 31, _, _, some (6, true)⟩) (v := undef) rfl (by kernel_rfl) (by kernel_rfl) (by kernel_rfl) (fun _ _ _ h => h) (Or.inr ⟨by rfl, rfl⟩) hS0 ?rq513
            (try simp only [Act.put, List.setIfInBounds_toArray, List.set_cons_zero, List.set_cons_succ])
            refine wpAnyH_take (i := 14) (oi := ⟨some 78, Op.call { callee := Callee.value (Operand.func 21), args := #[Operand.tmp 76, Operand.tmp 77], argTypes := #[31, 31] }, 4, _, _, some (6, true)⟩) (v := undef) rfl (by kernel_rfl) (by kernel_rfl) (by kernel_rfl) (fun _ _ _ h => h) (Or.inr ⟨by rfl, rfl⟩) hS0 ?rq514
            (try simp only [Act.put, List.setIfInBounds_toArray, List.set_cons_zero, List.set_cons_succ])
            refine wpAnyH_take (i := 15) (oi := ⟨some 79, Op.binOp BinOp.neq 4 (Operand.tmp 75) (Operand.tmp 78) 4, 4, _, _, some (6, true)⟩) (v := undef) rfl (by kernel_rfl) (by kernel_rfl) (by kernel_rfl) (fun _ _ _ h => h) (Or.inr ⟨by rfl, rfl⟩) hS0 ?rq515
            (try simp only [Act.put, List.setIfInBounds_toArray, List.set_cons_zero, List.set_cons_succ])
            refine wpAnyH_take (i := 16) (oi := ⟨some 80, Op.pick (Operand.tmp 70) (Operand.tmp 79) (Operand.const (Value.bool false)), 4, _, _, none⟩) (v := ?vq516) rfl (by kernel_rfl) (by kernel_rfl) (by kernel_rfl) (fun _ _ _ h => h) (Or.inl ⟨by rfl, ?hq516⟩) hS0 ?rq516
            case hq516 => (intro wz hSw; go_simp <;> with_reducible rfl)
            (try simp only [Act.put, List.setIfInBounds_toArray, List.set_cons_zero, List.set_cons_succ])
            refine wpAnyH_done (by kernel_rfl) ?_ _
            refine NoPanic.normal ?_
            have HWE : Hid (Below W.heap.size W v0) := Lib.hid (HW6.out.trans ((hS0).mono HW6.out.size))
            have HLE := Lib.hid (HL6.out.below (hS0) HW6.out.size)
            go_wp2_with (fail)
            (with_reducible refine (dec_short HLE.out HWE.out.size HBl.out HCl.out HL4k.out).mono ?_)
            rintro e u1 (⟨er, her, rfl, HU1⟩ | ⟨k, rfl, HK, HKr, HU1⟩)
            · have HZ1 : Hid (Below W.heap.size W u1) := Lib.hid (HWE.out.trans (HU1.out.mono HWE.out.size))
              rcases her with rfl | rfl
              · go_wp2_with (fail)
                (with_reducible refine (same_zero _).mono ?_); rintro e u2 ⟨rfl, hU2⟩
                go_wp2
                go_ret
                exact ⟨rfl, (HZ1.out.alloc HZ1.out.size _).trans (hU2.mono (HZ1.out.alloc HZ1.out.size _).size)⟩
              · go_wp2_with (fail)
                (with_reducible refine (same_zero _).mono ?_); rintro e u2 ⟨rfl, hU2⟩
                go_wp2
                go_ret
                exact ⟨rfl, (HZ1.out.alloc HZ1.out.size _).trans (hU2.mono (HZ1.out.alloc HZ1.out.size _).size)⟩
            · obtain ⟨kr, ke, kf, kl⟩ := HK.out
              have HKt := Lib.hid kr; have HKe := Lib.hid ke; have HKf := Lib.hid kf; have HKl := Lib.hid kl
              clear kr ke kf kl HK
              have HZ1 : Hid (Below W.heap.size W u1) := Lib.hid (HWE.out.trans (HU1.out.mono HWE.out.size))
              have HKb : Hid ((u1.alloc (.cells #[.slice k.aA k.ab.length k.aC, .slice k.uA k.au.length k.uC, .slice k.fA k.fo.length k.fC, .int .i64 k.W, .int .i64 k.H, .slice k.gA k.wl.length k.gC, .int .i64 k.dx, .int .i64 k.dy, .int .i64 k.lx, .int .i64 k.ly] 31)).heap[u1.heap.size]? = some (.cells #[.slice k.aA k.ab.length k.aC, .slice k.uA k.au.length k.uC, .slice k.fA k.fo.length k.fC, .int .i64 k.W, .int .i64 k.H, .slice k.gA k.wl.length k.gC, .int .i64 k.dx, .int .i64 k.dy, .int .i64 k.lx, .int .i64 k.ly] 31)) := Lib.hid (heap_alloc_new u1 _)
              have HAl : Hid (Below u1.heap.size u1 (u1.alloc (.cells #[.slice k.aA k.ab.length k.aC, .slice k.uA k.au.length k.uC, .slice k.fA k.fo.length k.fC, .int .i64 k.W, .int .i64 k.H, .slice k.gA k.wl.length k.gC, .int .i64 k.dx, .int .i64 k.dy, .int .i64 k.lx, .int .i64 k.ly] 31))) := Lib.hid ((Below.refl _ _).alloc (Nat.le_refl _) _)
              have HKr2 := Lib.hid ((HKr.out.below HAl.out (Nat.le_refl _)).more HAl.out.size)
              have HZ2 : Hid (Below W.heap.size W (u1.alloc (.cells #[.slice k.aA k.ab.length k.aC, .slice k.uA k.au.length k.uC, .slice k.fA k.fo.length k.fC, .int .i64 k.W, .int .i64 k.H, .slice k.gA k.wl.length k.gC, .int .i64 k.dx, .int .i64 k.dy, .int .i64 k.lx, .int .i64 k.ly] 31))) := Lib.hid (HZ1.out.trans (HAl.out.mono HZ1.out.size))
              have HLl : Hid (Rd .u8 (u1.alloc (.cells #[.slice k.aA k.ab.length k.aC, .slice k.uA k.au.length k.uC, .slice k.fA k.fo.length k.fC, .int .i64 k.W, .int .i64 k.H, .slice k.gA k.wl.length k.gC, .int .i64 k.dx, .int .i64 k.dy, .int .i64 k.lx, .int .i64 k.ly] 31)) W.heap.size A l) := Lib.hid ((HLE.out.below HU1.out HWE.out.size).below HAl.out HZ1.out.size)
              have hk := cellOf' HKb.out; have lk := lt_of_block HKb.out
              go_wp2_with (fail)
              generalize hu : u1.alloc (.cells #[.slice k.aA k.ab.length k.aC, .slice k.uA k.au.length k.uC, .slice k.fA k.fo.length k.fC, .int .i64 k.W, .int .i64 k.H, .slice k.gA k.wl.length k.gC, .int .i64 k.dx, .int .i64 k.dy, .int .i64 k.lx, .int .i64 k.ly] 31) = u2 at *
              clear hu hk lk
              have HSk := Lib.hid (sm_flat (d := k) (by have := HKl.out; omega))
              (with_reducible refine (encode_c k HKr2.out (Nat.le_refl _) HSk.out (fun _ => HKf.out) (by have := HKl.out; omega)).mono ?_); rintro e u3 ⟨lz, Az, cz, ez, rfl, HHz, HOz, HU3⟩
              rcases HHz.out with ⟨_, z1, z2⟩ | ⟨z0, _⟩
              · subst z1
                have HLz := Lib.hid z2; clear z2
                have HKb3 := Lib.hid (hkeep HU3.out HKb.out)
                have HKr3 := Lib.hid (HKr2.out.below HU3.out (Nat.le_refl _))
                have HZ3 : Hid (Below W.heap.size W u3) := Lib.hid (HZ2.out.trans (HU3.out.mono HZ2.out.size))
                have HRz := Lib.hid (Own.rd HOz.out)
                have HLl3 := Lib.hid (HLl.out.below HU3.out HZ2.out.size)
                have hk := cellOf' HKb3.out; have lk := lt_of_block HKb3.out
                have hbq := beq_str (l := lz) (m := l) (by rw [HLz.out]; exact en_byt _) HBl.out true (by simp [HLz.out, ← HKe.out])
                go_wp2_with (fail)
                (with_reducible refine (right_c HKr3.out HU3.out.size HSk.out true (by simp [HKt.out])).mono ?_); rintro e u4 ⟨rfl, hU4⟩
                have h1 := conv cz ((HRz.out.below hU4 (Nat.le_refl _)))
                have h2 := conv cb (HLl3.out.below hU4 HZ3.out.size)
                clear hk lk
                go_wp2
                go_ret
                exact ⟨rfl, HZ3.out.trans (hU4.mono HZ3.out.size)⟩
              · exact absurd HKt.out z0


set_option maxRecDepth 100000 in
theorem lifted (os : Os) (started : os.Started) (H : Type) (enc : TypeId × Value → H) :
    ReturnsInHanded {} Tryz.checked os 5 .any (Rows.blobBackSpec.pre6 enc Tryz.prog Tryz.f5 Rows.blobBackRow.domain false) (Rows.blobBackSpec.post enc Tryz.prog Tryz.f5 false true false false) := by
  refine returnsInHanded_of_change (C := Tryz.checked) own started (by kernel_rfl) Tryz.func5
    (ChangeSpec.witness6 (enc := enc) (C := Tryz.checked) false ⟨#[], #[.agg #[.slice none 0 0, .slice none 0 0, .slice none 0 0, .int .i64 0, .int .i64 0, .slice none 0 0, .int .i64 0, .int .i64 0, .int .i64 0, .int .i64 0], .agg #[.slice none 0 0, .slice none 0 0, .slice none 0 0, .int .i64 0, .int .i64 0, .slice none 0 0, .int .i64 0, .int .i64 0, .int .i64 0, .int .i64 0], .slice none 0 0], []⟩ 8 (by kernel_rfl) (by kernel_rfl) (by kernel_rfl) (by kernel_rfl)) ?_
  intro W base args ds gs before hval0 hW hcnd _
  have hval : ∀ (j : Nat) t v, Tryz.f5.params[j]? = some t → args[j]? = some v → Value.okWide Tryz.prog W .any base t v := hval0
  have hW' := hW
  obtain ⟨p, q, hA0, hV, rfl, hfz, hnd⟩ := hW
  have hA : DataW.TrodAll enc Tryz.prog W 0 (fun _ => true) true Tryz.f5.params.toList args.toList ds p := hA0
  rw [Tryz.params5] at hA hval
  obtain ⟨v0, vs0, d0, ds0, p0, q0, hargs, rfl, rfl, h0, r0⟩ := trodAll_cons hA
  obtain ⟨v1, vs1, d1, ds1, p1, q1, rfl, rfl, rfl, h1, r1⟩ := trodAll_cons r0
  obtain ⟨v2, vs2, d2, ds2, p2, q2, rfl, rfl, rfl, h2, r2⟩ := trodAll_cons r1
  obtain ⟨rfl, rfl, rfl⟩ := trodAll_nil r2
  obtain rfl : args = #[v0, v1, v2] := by cases args; simp_all
  obtain ⟨rfl, rfl⟩ := trodVars_none hV
  clear hA0 hval0
  have hlt0 : ∀ x ∈ p0, x.block < W.heap.size := fun x hx => hW'.lt x (by simp [hx])
  have hk0 := h0
  obtain ⟨c0, rfl, hr0, hf0⟩ := Opn.viewC (hval 0 31 v0 rfl rfl) h0
  have hlt1 : ∀ x ∈ p1, x.block < W.heap.size := fun x hx => hW'.lt x (by simp [hx])
  have hk1 := h1
  obtain ⟨c1, rfl, hr1, hf1⟩ := Opn.viewC (hval 1 31 v1 rfl rfl) h1
  have hlt2 : ∀ x ∈ p2, x.block < W.heap.size := fun x hx => hW'.lt x (by simp [hx])
  have hk2 := h2
  obtain ⟨A2, c2, l2, rfl, hr2, hc2, hl2, hx2⟩ := Pop.viewB (hval 2 38 v2 rfl rfl) h2 hlt2
  simp only [List.append_nil] at hW'
  refine (walk W c0 hr0 hf0 c1 hr1 hf1 A2 c2 l2 hr2 hc2 hl2 hx2).mono fun e W' ⟨he, hg⟩ => ?_
  subst he
  exact ⟨_, rfl, _, _, _, [], _, [], hW', (trodAll_cons_mk (shut_bool Tryz.underlying4 _) trodAll_mk0), (trodAll_cons_mk (Below.trod Opn.laidOut (by kernel_rfl) (of_decide_eq_true (by kernel_rfl)) hk0 hg hlt0) (trodAll_cons_mk (Below.trod Opn.laidOut (by kernel_rfl) (of_decide_eq_true (by kernel_rfl)) hk1 hg hlt1) (trodAll_cons_mk (Below.trod Opn.laidOut (by kernel_rfl) (of_decide_eq_true (by kernel_rfl)) hk2 hg hlt2) trodAll_mk0))), rfl, hg.frame _, fun h => by cases h⟩

theorem over : Rows.blobBackRow.holds Tryz.pinned (OpenSpec.ofChange Rows.blobBackSpec) :=
  OpenClaim.holds_of_wide 5 Tryz.f5 rfl rfl rfl rfl rfl rfl rfl ⟨rfl, rfl, rfl, rfl, rfl⟩ rfl rfl rfl rfl rfl (by kernel_rfl) Tryz.func5 (by kernel_rfl)
    (of_decide_eq_true (by kernel_rfl)) (by unfold Func.isWrapper; first | (rw [if_pos (by decide +kernel)]; kernel_rfl) | (rw [if_neg (by decide +kernel)]; exact ⟨rfl, rfl⟩))
    (fun os started H enc _ => lifted os started H enc)

/-- The given statement. -/
theorem proved : Rows.BlobBackSaid :=
  over
#print axioms proved
end Go.Proofs.YtpjenkgimkndaaaGreat.blobBack
