/-
  Contract of the laws' small case of blob.
-/
import Derived.Test.YtpjenkgimkndaaaGreatEnc
import Derived.Test.YtpjenkgimkndaaaGreatRsc
import Derived.Deep.QuietTactic
import Derived.BigQuiet
namespace Go.Proofs.YtpjenkgimkndaaaGreat.Con
open Go.RowKit Go.Maps Pm Mth

abbrev cB (p : Nat) : Cn := ⟨none, 0, [], none, 0, [], none, 0, [], 1, 1, some ⟨p, 0, none⟩, 1, [false], 0, 0, 0, 0⟩
abbrev F0 : List Int := [0, 0, 0, 1, 1, 1, 0, 0, 0, 0, 0]
theorem flat_B (p : Nat) : fCn (cB p) = F0 := rfl
theorem right_B (p : Nat) : RightC (cB p) := ⟨rfl, rfl, rfl, rfl, rfl, rfl⟩
theorem sm_B (p : Nat) : Sm (cB p) := ⟨by simp, by simp, by simp, by simp, by simp, by simp, by simp⟩
abbrev oW : Obj := .cells #[.bool false] 4
theorem rc_B {w : World} {p : Nat} (h : w.heap[p]? = some oW) : RC w w.heap.size (cB p) := by
  refine ⟨.inl rfl, .inl rfl, .inl rfl, .inr ⟨p, 0, rfl, lt_of_block h, fun k x hx => ?_⟩, fun _ ha => (by cases ha), fun _ ha => (by cases ha), fun _ ha => (by cases ha)⟩
  cases k with
  | zero => simp at hx; subst hx; rw [cellOf' h]; rfl
  | succ k => simp at hx
theorem fit_F0 : Fit F0 := by intro x hx; simp [F0] at hx; omega
theorem en_F0 : En F0 = [66, 82, 87, 49, 11, 0, 0, 0, 2, 2, 2, 0, 0, 0, 0, 0] := by
  have h0 : dg (sg 0).toNat = [0] := dg_lt (by decide)
  have h1 : dg (sg 1).toNat = [2] := dg_lt (by decide)
  have h2 : dg F0.length = [11] := dg_lt (by decide)
  unfold En
  rw [h2]
  simp [mk4, wl, h0, h1]
theorem len_F0 : (En F0).length = 16 := by rw [en_F0]; rfl
theorem enc_B {w : World} {p : Nat} (h : w.heap[p]? = some oW) : Calls Tryz.prog 13 #[.agg #[.slice none 0 0, .slice none 0 0, .slice none 0 0, .int .i64 1, .int .i64 1, .slice (some ⟨p, 0, none⟩) 1 1, .int .i64 0, .int .i64 0, .int .i64 0, .int .i64 0]] w fun e w' => ∃ A cc, e = .returned (.tuple #[.slice A 16 cc, .int .i64 0]) ∧ Hid (Own w' w.heap.size .u8 5 A cc (En F0)) ∧ Hid (Below w.heap.size w w') :=
  (encode_c (cB p) (rc_B h) (Nat.le_refl _) (sm_B p) (fun _ => fit_F0) (by rw [flat_B]; simp [F0])).mono (by
    rintro e w' ⟨lm, A, cc, er, rfl, hh, HO, HB⟩
    rcases hh.out with ⟨_, rfl, e3⟩ | ⟨h, _⟩
    · rw [flat_B] at e3
      subst e3
      exact ⟨A, cc, by rw [len_F0], HO, HB⟩
    · exact absurd (right_B p) h)
theorem dec_B {w : World} {base : Nat} {A : Option Addr} {cc : Nat} (p : Nat) (ho : Own w base .u8 5 A cc (En F0)) : Calls Tryz.prog 18 #[.slice A 16 cc] w fun e w' => ∃ k, e = .returned (.tuple #[cnv k, .int .i64 0]) ∧ Hid (k.pl = (cB p).pl) ∧ Hid (RC w' w'.heap.size k) ∧ Hid (Below w.heap.size w w') := by
  have hd := dc_en (c := cB p) fit_F0
  rw [flat_B] at hd
  have hlen := len_F0
  have h := decode_any A cc (En F0) w w.heap.size (Own.rd ho) (Nat.le_refl _) (en_byt _) (Own.cap ho) (by rw [hlen]; omega) (fun l hl => by
      have := dl_uniq (by rw [hlen]; omega) hl (show DL (En F0) (some F0) from ⟨rfl, fit_F0⟩)
      injection this with this
      subst this; simp [F0]) (fun d hd2 => by
      have := dc_uniq (by rw [hlen]; omega) hd2 hd
      injection this with this
      subst this
      exact (sm_B p).of_pl (by simp [Cn.pl]))
  rw [hlen] at h
  refine h.mono ?_
  rintro e w' ⟨k, er, rfl, HK, HO, HB⟩
  obtain ⟨o, h1, h2⟩ := HO.out
  have := dc_uniq (by rw [hlen]; omega) h1 hd
  subst this
  rcases h2 with ⟨h, _⟩ | ⟨d, h, h3, _⟩ | ⟨d, h, _, h3, rfl⟩
  · cases h
  · injection h with h
    subst h
    exact absurd ((rightC_pl _).2 (right_B p)) h3
  · injection h with h
    exact ⟨k, rfl, Lib.hid (h3.trans h.symm), Lib.hid HK.out.rc, HB⟩
theorem dl_mk : DL mk4 none := fun l _ e => by have := en_long l; rw [← e] at this; simp [mk4] at this
theorem dec_mk {w : World} {B : Nat} (ad : Addr) (hr : Rd .u8 w B (some ad) mk4) (hB : B ≤ w.heap.size) : Calls Tryz.prog 18 #[.slice (some ad) 4 4] w fun e w' => e = .returned (.tuple #[cnv zCn, .int .i64 2]) ∧ Hid (Below w.heap.size w w') :=
  (decode_any (some ad) 4 mk4 w B hr hB mk_byt (by simp [mk4]) (by simp [mk4]) (fun l hl => by
      have := dl_uniq (by simp [mk4]) hl dl_mk
      cases this) (fun d hd => by
      have := dc_uniq (by simp [mk4]) hd (.inr ⟨dl_mk, rfl⟩)
      cases this)).mono (by
    rintro e w' ⟨k, er, rfl, HK, HO, HB⟩
    obtain ⟨o, h1, h2⟩ := HO.out
    have := dc_uniq (by simp [mk4]) h1 (.inr ⟨dl_mk, rfl⟩)
    subst this
    rcases h2 with ⟨_, rfl, rfl⟩ | ⟨d, h, _⟩ | ⟨d, h, _⟩
    · exact ⟨rfl, HB⟩
    · cases h
    · cases h)
theorem flat_B_c {w : World} {p : Nat} (h : w.heap[p]? = some oW) : Calls Tryz.prog 10 #[.agg #[.slice none 0 0, .slice none 0 0, .slice none 0 0, .int .i64 1, .int .i64 1, .slice (some ⟨p, 0, none⟩) 1 1, .int .i64 0, .int .i64 0, .int .i64 0, .int .i64 0]] w fun e w' => ∃ A c, e = .returned (.slice A 11 c) ∧ Hid (Rd .i64 w' w'.heap.size A F0) ∧ Hid (Below w.heap.size w w') :=
  (flat_c (cB p) (rc_B h) (Nat.le_refl _) (by rw [flat_B]; simp [F0])).mono (by
    rintro e w' ⟨lm, A, c, hl, rfl, HO, HB⟩
    have hl2 : lm = F0 := hl.out
    subst hl2
    exact ⟨A, c, rfl, Lib.hid (Own.rd HO.out), HB⟩)
theorem same_F0 {w : World} {B B' : Nat} (A A' : Option Addr) (c c' : Nat) (hr : Rd .i64 w B A F0) (hr' : Rd .i64 w B' A' F0) : Calls Tryz.prog 11 #[.slice A 11 c, .slice A' 11 c'] w fun e w' => e = .returned (.bool true) ∧ ∃ q, w' = w.drewN q :=
  Pk.same_any A A' c c' F0 F0 w B B' hr hr' rfl (by simp [F0])
theorem same_B {w : World} {p : Nat} (k : Cn) (h : w.heap[p]? = some oW) (hk : RC w w.heap.size k) (e : k.pl = (cB p).pl) : Calls Tryz.prog 15 #[.agg #[.slice none 0 0, .slice none 0 0, .slice none 0 0, .int .i64 1, .int .i64 1, .slice (some ⟨p, 0, none⟩) 1 1, .int .i64 0, .int .i64 0, .int .i64 0, .int .i64 0], cnv k] w fun e w' => e = .returned (.bool true) ∧ Below w.heap.size w w' :=
  rsame_c (cB p) k (rc_B h) hk (Nat.le_refl _) (sm_B p) true (by simp [e])
theorem hkeep {w w' : World} {P : Nat} {o : Obj} (hb : Below w.heap.size w w') (h : w.heap[P]? = some o) : w'.heap[P]? = some o := (hb.block _ (lt_of_block h)).trans h
set_option maxRecDepth 40000 in
set_option maxHeartbeats 8000000 in
theorem small_b (w : World) : Calls Tryz.prog 7 #[] w fun e w' => e = .returned (.bool true) ∧ Below w.heap.size w w' := by
  have hw0 : Below w.heap.size w ((w.alloc oW).alloc (.cells #[.slice none 0 0, .slice none 0 0, .slice none 0 0, .int .i64 1, .int .i64 1, .slice (some ⟨w.heap.size, 0, none⟩) 1 1, .int .i64 0, .int .i64 0, .int .i64 0, .int .i64 0] 31)) := by go_grown
  have HW0 := Lib.hid hw0
  have HP0 : Hid (((w.alloc oW).alloc (.cells #[.slice none 0 0, .slice none 0 0, .slice none 0 0, .int .i64 1, .int .i64 1, .slice (some ⟨w.heap.size, 0, none⟩) 1 1, .int .i64 0, .int .i64 0, .int .i64 0, .int .i64 0] 31)).heap[w.heap.size]? = some oW) := Lib.hid ((Below.heap_alloc _ _ _ (by simp)).trans (heap_alloc_new w _))
  have HC0 : Hid (((w.alloc oW).alloc (.cells #[.slice none 0 0, .slice none 0 0, .slice none 0 0, .int .i64 1, .int .i64 1, .slice (some ⟨w.heap.size, 0, none⟩) 1 1, .int .i64 0, .int .i64 0, .int .i64 0, .int .i64 0] 31)).heap[w.heap.size + 1]? = some (.cells #[.slice none 0 0, .slice none 0 0, .slice none 0 0, .int .i64 1, .int .i64 1, .slice (some ⟨w.heap.size, 0, none⟩) 1 1, .int .i64 0, .int .i64 0, .int .i64 0, .int .i64 0] 31)) := Lib.hid (by have := heap_alloc_new (w.alloc oW) (.cells #[.slice none 0 0, .slice none 0 0, .slice none 0 0, .int .i64 1, .int .i64 1, .slice (some ⟨w.heap.size, 0, none⟩) 1 1, .int .i64 0, .int .i64 0, .int .i64 0, .int .i64 0] 31); simpa using this)
  have HZ0 : Hid (w.heap.size ≤ ((w.alloc oW).alloc (.cells #[.slice none 0 0, .slice none 0 0, .slice none 0 0, .int .i64 1, .int .i64 1, .slice (some ⟨w.heap.size, 0, none⟩) 1 1, .int .i64 0, .int .i64 0, .int .i64 0, .int .i64 0] 31)).heap.size) := Lib.hid hw0.size
  clear hw0
  go_enter Tryz.func7, Tryz.ntmps7
  go_wp2_with (fail)
  generalize (w.alloc oW).alloc (.cells #[.slice none 0 0, .slice none 0 0, .slice none 0 0, .int .i64 1, .int .i64 1, .slice (some ⟨w.heap.size, 0, none⟩) 1 1, .int .i64 0, .int .i64 0, .int .i64 0, .int .i64 0] 31) = V at *
  (with_reducible refine (enc_B HP0.out).mono ?_); rintro e w1 ⟨A1, c1, rfl, HO1, HB1⟩
  have HW1 : Hid (Below w.heap.size w w1) := Lib.hid (HW0.out.trans (HB1.out.mono HZ0.out))
  have HP1 := Lib.hid (hkeep HB1.out HP0.out); have HC1 := Lib.hid (hkeep HB1.out HC0.out)
  go_wp2_with (fail)
  (with_reducible refine (dec_B w.heap.size HO1.out).mono ?_); rintro e w2 ⟨k, rfl, HK, HR, HB2⟩
  have HW2 : Hid (Below w.heap.size w w2) := Lib.hid (HW1.out.trans (HB2.out.mono HW1.out.size))
  have HP2 := Lib.hid (hkeep HB2.out HP1.out); have HC2 := Lib.hid (hkeep HB2.out HC1.out)
  have hcv := conv_mk' (w := w2.alloc (.cells #[.slice k.aA k.ab.length k.aC, .slice k.uA k.au.length k.uC, .slice k.fA k.fo.length k.fC, .int .i64 k.W, .int .i64 k.H, .slice k.gA k.wl.length k.gC, .int .i64 k.dx, .int .i64 k.dy, .int .i64 k.lx, .int .i64 k.ly] 31)) (b := w2.heap.size + 1) (by simp)
  have HM : Hid (Rd .u8 ((w2.alloc (.cells #[.slice k.aA k.ab.length k.aC, .slice k.uA k.au.length k.uC, .slice k.fA k.fo.length k.fC, .int .i64 k.W, .int .i64 k.H, .slice k.gA k.wl.length k.gC, .int .i64 k.dx, .int .i64 k.dy, .int .i64 k.lx, .int .i64 k.ly] 31)).alloc oMk) (w2.heap.size + 2) (some ⟨w2.heap.size + 1, 0, none⟩) mk4) := Lib.hid (by have := rd_mk (w2.alloc (.cells #[.slice k.aA k.ab.length k.aC, .slice k.uA k.au.length k.uC, .slice k.fA k.fo.length k.fC, .int .i64 k.W, .int .i64 k.H, .slice k.gA k.wl.length k.gC, .int .i64 k.dx, .int .i64 k.dy, .int .i64 k.lx, .int .i64 k.ly] 31)); simpa using this)
  have hb3 : Below w2.heap.size w2 ((w2.alloc (.cells #[.slice k.aA k.ab.length k.aC, .slice k.uA k.au.length k.uC, .slice k.fA k.fo.length k.fC, .int .i64 k.W, .int .i64 k.H, .slice k.gA k.wl.length k.gC, .int .i64 k.dx, .int .i64 k.dy, .int .i64 k.lx, .int .i64 k.ly] 31)).alloc oMk) := by go_grown
  have HB3 := Lib.hid hb3
  have HD3 : Hid (((w2.alloc (.cells #[.slice k.aA k.ab.length k.aC, .slice k.uA k.au.length k.uC, .slice k.fA k.fo.length k.fC, .int .i64 k.W, .int .i64 k.H, .slice k.gA k.wl.length k.gC, .int .i64 k.dx, .int .i64 k.dy, .int .i64 k.lx, .int .i64 k.ly] 31)).alloc oMk).heap[w2.heap.size]? = some (.cells #[.slice k.aA k.ab.length k.aC, .slice k.uA k.au.length k.uC, .slice k.fA k.fo.length k.fC, .int .i64 k.W, .int .i64 k.H, .slice k.gA k.wl.length k.gC, .int .i64 k.dx, .int .i64 k.dy, .int .i64 k.lx, .int .i64 k.ly] 31)) := Lib.hid ((Below.heap_alloc _ _ _ (by simp)).trans (heap_alloc_new w2 _))
  have HL3 : Hid (w2.heap.size + 2 ≤ ((w2.alloc (.cells #[.slice k.aA k.ab.length k.aC, .slice k.uA k.au.length k.uC, .slice k.fA k.fo.length k.fC, .int .i64 k.W, .int .i64 k.H, .slice k.gA k.wl.length k.gC, .int .i64 k.dx, .int .i64 k.dy, .int .i64 k.lx, .int .i64 k.ly] 31)).alloc oMk).heap.size) := Lib.hid (by simp)
  clear hb3
  go_wp2_with (fail)
  clear hcv
  generalize (w2.alloc (.cells #[.slice k.aA k.ab.length k.aC, .slice k.uA k.au.length k.uC, .slice k.fA k.fo.length k.fC, .int .i64 k.W, .int .i64 k.H, .slice k.gA k.wl.length k.gC, .int .i64 k.dx, .int .i64 k.dy, .int .i64 k.lx, .int .i64 k.ly] 31)).alloc oMk = V3 at *
  have HW3 : Hid (Below w.heap.size w V3) := Lib.hid (HW2.out.trans (HB3.out.mono HW2.out.size))
  have HP3 := Lib.hid (hkeep HB3.out HP2.out); have HC3 := Lib.hid (hkeep HB3.out HC2.out)
  have HR3 := Lib.hid ((HR.out.below HB3.out (Nat.le_refl _)).more HB3.out.size)
  (with_reducible refine (dec_mk ⟨w2.heap.size + 1, 0, none⟩ HM.out HL3.out).mono ?_); rintro e w4 ⟨rfl, HB4⟩
  have hb5 : Below w4.heap.size w4 (w4.alloc (.cells #[.slice zCn.aA zCn.ab.length zCn.aC, .slice zCn.uA zCn.au.length zCn.uC, .slice zCn.fA zCn.fo.length zCn.fC, .int .i64 zCn.W, .int .i64 zCn.H, .slice zCn.gA zCn.wl.length zCn.gC, .int .i64 zCn.dx, .int .i64 zCn.dy, .int .i64 zCn.lx, .int .i64 zCn.ly] 31)) := by go_grown
  have HB5 := Lib.hid hb5
  have HW5 : Hid (Below w.heap.size w (w4.alloc (.cells #[.slice zCn.aA zCn.ab.length zCn.aC, .slice zCn.uA zCn.au.length zCn.uC, .slice zCn.fA zCn.fo.length zCn.fC, .int .i64 zCn.W, .int .i64 zCn.H, .slice zCn.gA zCn.wl.length zCn.gC, .int .i64 zCn.dx, .int .i64 zCn.dy, .int .i64 zCn.lx, .int .i64 zCn.ly] 31))) := Lib.hid ((HW3.out.trans (HB4.out.mono HW3.out.size)).trans (hb5.mono (HW3.out.trans (HB4.out.mono HW3.out.size)).size))
  have HP5 := Lib.hid (hkeep HB5.out (hkeep HB4.out HP3.out)); have HC5 := Lib.hid (hkeep HB5.out (hkeep HB4.out HC3.out)); have HD5 := Lib.hid (hkeep HB5.out (hkeep HB4.out HD3.out))
  have HR5 : Hid (RC (w4.alloc (.cells #[.slice zCn.aA zCn.ab.length zCn.aC, .slice zCn.uA zCn.au.length zCn.uC, .slice zCn.fA zCn.fo.length zCn.fC, .int .i64 zCn.W, .int .i64 zCn.H, .slice zCn.gA zCn.wl.length zCn.gC, .int .i64 zCn.dx, .int .i64 zCn.dy, .int .i64 zCn.lx, .int .i64 zCn.ly] 31)) (w4.alloc (.cells #[.slice zCn.aA zCn.ab.length zCn.aC, .slice zCn.uA zCn.au.length zCn.uC, .slice zCn.fA zCn.fo.length zCn.fC, .int .i64 zCn.W, .int .i64 zCn.H, .slice zCn.gA zCn.wl.length zCn.gC, .int .i64 zCn.dx, .int .i64 zCn.dy, .int .i64 zCn.lx, .int .i64 zCn.ly] 31)).heap.size k) := Lib.hid (((HR3.out.below HB4.out (Nat.le_refl _)).below (hb5.mono HB4.out.size) (Nat.le_refl _)).more (Nat.le_trans HB4.out.size hb5.size))
  clear hb5
  have hc5 := cellOf' HC5.out; have lc5 := lt_of_block HC5.out
  go_wp2_with (fail)
  generalize (w4.alloc (.cells #[.slice zCn.aA zCn.ab.length zCn.aC, .slice zCn.uA zCn.au.length zCn.uC, .slice zCn.fA zCn.fo.length zCn.fC, .int .i64 zCn.W, .int .i64 zCn.H, .slice zCn.gA zCn.wl.length zCn.gC, .int .i64 zCn.dx, .int .i64 zCn.dy, .int .i64 zCn.lx, .int .i64 zCn.ly] 31)) = V5 at *
  clear hc5 lc5
  (with_reducible refine (flat_B_c HP5.out).mono ?_); rintro e w6 ⟨A6, c6, rfl, HR6, HB6⟩
  have hb7 : Below w6.heap.size w6 (w6.alloc (.cells #[.int .i64 0, .int .i64 0, .int .i64 0, .int .i64 1, .int .i64 1, .int .i64 1, .int .i64 0, .int .i64 0, .int .i64 0, .int .i64 0, .int .i64 0] 3)) := by go_grown
  have HB7 := Lib.hid hb7
  have HW7 : Hid (Below w.heap.size w (w6.alloc (.cells #[.int .i64 0, .int .i64 0, .int .i64 0, .int .i64 1, .int .i64 1, .int .i64 1, .int .i64 0, .int .i64 0, .int .i64 0, .int .i64 0, .int .i64 0] 3))) := Lib.hid ((HW5.out.trans (HB6.out.mono HW5.out.size)).trans (hb7.mono (HW5.out.trans (HB6.out.mono HW5.out.size)).size))
  have HP7 := Lib.hid (hkeep HB7.out (hkeep HB6.out HP5.out)); have HC7 := Lib.hid (hkeep HB7.out (hkeep HB6.out HC5.out)); have HD7 := Lib.hid (hkeep HB7.out (hkeep HB6.out HD5.out))
  have HR7 : Hid (RC (w6.alloc (.cells #[.int .i64 0, .int .i64 0, .int .i64 0, .int .i64 1, .int .i64 1, .int .i64 1, .int .i64 0, .int .i64 0, .int .i64 0, .int .i64 0, .int .i64 0] 3)) (w6.alloc (.cells #[.int .i64 0, .int .i64 0, .int .i64 0, .int .i64 1, .int .i64 1, .int .i64 1, .int .i64 0, .int .i64 0, .int .i64 0, .int .i64 0, .int .i64 0] 3)).heap.size k) := Lib.hid (((HR5.out.below HB6.out (Nat.le_refl _)).below (hb7.mono HB6.out.size) (Nat.le_refl _)).more (Nat.le_trans HB6.out.size hb7.size))
  have HS7 : Hid (Rd .i64 (w6.alloc (.cells #[.int .i64 0, .int .i64 0, .int .i64 0, .int .i64 1, .int .i64 1, .int .i64 1, .int .i64 0, .int .i64 0, .int .i64 0, .int .i64 0, .int .i64 0] 3)) w6.heap.size A6 F0) := Lib.hid (HR6.out.alloc (Nat.le_refl _) _)
  have HT7 : Hid (Rd .i64 (w6.alloc (.cells #[.int .i64 0, .int .i64 0, .int .i64 0, .int .i64 1, .int .i64 1, .int .i64 1, .int .i64 0, .int .i64 0, .int .i64 0, .int .i64 0, .int .i64 0] 3)) (w6.heap.size + 1) (some ⟨w6.heap.size, 0, none⟩) F0) := Lib.hid (rd_new w6 F0 #[.int .i64 0, .int .i64 0, .int .i64 0, .int .i64 1, .int .i64 1, .int .i64 1, .int .i64 0, .int .i64 0, .int .i64 0, .int .i64 0, .int .i64 0] 3 rfl)
  clear hb7
  go_wp2_with (fail)
  generalize (w6.alloc (.cells #[.int .i64 0, .int .i64 0, .int .i64 0, .int .i64 1, .int .i64 1, .int .i64 1, .int .i64 0, .int .i64 0, .int .i64 0, .int .i64 0, .int .i64 0] 3)) = V7 at *
  (with_reducible refine (same_F0 A6 (some ⟨w6.heap.size, 0, none⟩) c6 11 HS7.out HT7.out).mono ?_); rintro e V8 ⟨rfl, q, hq⟩
  have HQ := Lib.hid hq; clear hq
  have HB8 : Hid (Below V7.heap.size V7 V8) := Lib.hid (by rw [HQ.out]; exact below_drewN (Below.refl _ _) q)
  have HW8 : Hid (Below w.heap.size w V8) := Lib.hid (HW7.out.trans (HB8.out.mono HW7.out.size))
  have HP8 := Lib.hid (hkeep HB8.out HP7.out); have HC8 := Lib.hid (hkeep HB8.out HC7.out); have HD8 := Lib.hid (hkeep HB8.out HD7.out)
  have HR8 := Lib.hid ((HR7.out.below HB8.out (Nat.le_refl _)).more HB8.out.size)
  have hc8 := cellOf' HC8.out; have lc8 := lt_of_block HC8.out; have hd8 := cellOf' HD8.out; have ld8 := lt_of_block HD8.out
  go_wp2_with (fail)
  (with_reducible refine (same_B k HP8.out HR8.out HK.out).mono ?_); rintro e w9 ⟨rfl, hB9⟩
  go_wp2
  go_ret
  exact ⟨rfl, HW8.out.trans (hB9.mono HW8.out.size)⟩
end Go.Proofs.YtpjenkgimkndaaaGreat.Con
