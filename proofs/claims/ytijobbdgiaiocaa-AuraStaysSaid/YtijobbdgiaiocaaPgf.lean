/-
  Contract of Take of package aura.
-/
import Derived.Test.YtijobbdgiaiocaaPgc
import Derived.Test.YtijobbdgiaiocaaElx
import Derived.Test.YtijobbdgiaiocaaSht
import Derived.Test.YtijobbdgiaiocaaLay
namespace Go.Proofs.Ytijobbdgiaiocaa.Con
open Go.RowKit Go.Maps

/-- What Take leaves. -/
def TaA (w : World) (M : List Ac) (m : Int) (e : Ending) (w' : World) : Prop := ∃ (A' : Option Addr) (c' : Nat), e = .returned (.tuple #[.slice A' M.length c', .int .i64 m]) ∧ Hid (OW ac w' w.heap.size (.slice A' M.length c') M) ∧ Below w.heap.size w w'
/-- A row of numbers of which it is known where it lies. -/
def RN (w : World) (B : Nat) (A : Option Addr) (G : List Int) : Prop := (A = none ∧ G = []) ∨ ∃ b, A = some ⟨b, 0, none⟩ ∧ b < B ∧ ∀ (j : Nat) y, G[j]? = some y → w.cell? ⟨b, j, none⟩ = some (.int .i64 y)
theorem OW.rn {w : World} {base n c : Nat} {A : Option Addr} {G : List Int} (h : OW nu w base (.slice A n c) G) : RN w w.heap.size A G := by
  obtain ⟨A', c', hv, hr, h2⟩ := h.shape
  injection hv with e1 e2 e3
  subst e1
  rcases h2 with ⟨h3, h4, _⟩ | ⟨b, cur, rfl, hb, hlt, _⟩
  · exact .inl ⟨h3, h4⟩
  · refine .inr ⟨b, rfl, hlt, fun j y hy => ?_⟩
    obtain ⟨b', hA, _, _, hc, _⟩ := h.at' hy
    injection hA with e; injection e with e; subst e
    have := hc 0 _ rfl
    simpa [nu] using this
theorem RN.of {w w' : World} {B : Nat} {A : Option Addr} {G : List Int} (h : RN w B A G) (hb : Below B w w') : RN w' B A G := by
  rcases h with h | ⟨b, hA, hlt, hc⟩
  · exact .inl h
  · exact .inr ⟨b, hA, hlt, fun j y hy => (hb.cell (p := ⟨b, j, none⟩) hlt).trans (hc j y hy)⟩
theorem bin_rn {w : World} {B : Nat} {A : Option Addr} {c n : Nat} {G : List Int} (x : Int) (h : RN w B A G) (hn : G.length = n) (hb : n ≤ 1000000) (hs : G.Pairwise (· < ·)) :
    Calls Try.prog 45 #[.slice A n c, .int .i64 x] w fun e w' => (∃ i : Int, e = .returned (.tuple #[.int .i64 i, .bool (decide (x ∈ G))])) ∧ Below w.heap.size w w' := by
  refine bin_any x ?_ ?_ hn hb hs
  · rcases h with h | ⟨b, hA, _⟩
    · exact .inl h
    · exact .inr ⟨b, hA⟩
  · intro j y hy b hb
    rcases h with ⟨h, _⟩ | ⟨b', hA, _, hc⟩
    · rw [hb] at h; cases h
    · rw [hA] at hb; injection hb with e; injection e with e; subst e; exact hc j y hy

theorem take1_any {w : World} {B : Nat} {A : Option Addr} {c n : Nat} {G : List Int} (x : Ac) (k : Int) (q : Nat) (hq : w.heap[q]? = some (.cells #[.slice A n c] 77)) (h : RN w B A G) (hB : B ≤ w.heap.size) (hn : G.length = n) (hb : n ≤ 1000000) (hs : G.Pairwise (· < ·)) :
    Calls Try.prog 44 #[.int .i64 k, acv x, pt q] w fun e w' => e = .returned (.bool (!decide (k ∈ G))) ∧ Below w.heap.size w w' := by
  have hX := below_box w (oAc x)
  have hql := lt_blk1 hq
  have z0 := cellOf1 hq
  have HC := Lib.hid (bin_rn (w := w.alloc (oAc x)) (c := c) k (h.of (hX.mono hB)) hn hb hs)
  have HX := Lib.hid hX
  generalize decide (k ∈ G) = y at HC ⊢
  clear hq h hn hs hX
  go_enter Try.func44, Try.ntmps44
  go_wp2_with (first | ((with_reducible refine HC.out.mono ?_); rintro e w1 ⟨⟨i, rfl⟩, hB1⟩; have hV1 : Below w.heap.size w w1 := HX.out.trans (hB1.mono HX.out.size)))
  go_ret
  exact ⟨rfl, hV1⟩

theorem set_in {L : List Au} {l : List Ac} {m0 : Int} {S : List Sh} (hS : S = (takeI (shK L l l.length) m0).1) : ∀ s ∈ S, 0 ≤ s.aura ∧ s.aura < (l.length : Int) := by
  intro s hs
  have h1 := (take_parts (shK L l l.length) m0).1
  rw [← hS] at h1
  obtain ⟨t, ht, e⟩ := List.mem_map.1 (h1.subset (List.mem_map.2 ⟨s, hs, rfl⟩))
  obtain ⟨h2, h3, _⟩ := sh_in L l l.length (Nat.le_refl _) t ht
  rw [← e]; exact ⟨h2, h3⟩
theorem gone_rise {L : List Au} {l : List Ac} {m0 : Int} {G : List Int} (hG : G = (takeI (shK L l l.length) m0).2.2) : G.Pairwise (· < ·) := by
  rw [hG]; exact (sh_rise L l l.length (Nat.le_refl _)).sublist (take_parts _ m0).2

set_option maxRecDepth 20000 in
set_option maxHeartbeats 4000000 in
theorem take15_any {w : World} {B : Nat} {c : Cn} {A : Option Addr} {l : List Ac} {n cp : Nat} (m0 : Int) {S : List Sh} {m : Int} {G : List Int} (hT : takeI (shK c.au l l.length) m0 = (S, m, G)) (hA : AuC c w) (hac : ∀ a ∈ l, NAc a) (hn : l.length = n) (hl : (n : Int) ≤ 90000) (hr : RW ac w B A l) (hB : B ≤ w.heap.size) (hm : Fits m0) :
    Calls Try.prog 20 #[cnv c, .slice A n cp, .int .i64 m0] w (TaA w (taK S G l n) m) := by
  subst hn
  have hb := below_box w (oCn c)
  have HX := Lib.hid hb; have HO := Lib.hid (okC (hA.of hb)); have HN := Lib.hid (heap_alloc_new w (oCn c)); have HR := Lib.hid (hr.below hb hB)
  have HB := Lib.hid (Nat.le_trans hB hb.size); have HLT : Hid (w.heap.size < (w.alloc (oCn c)).heap.size) := Lib.hid (by simp)
  have HFs := Lib.hid (sh_fits (L := c.au) hac (by omega))
  have HT := Lib.hid hT
  clear hA hr hB hb hT hac
  go_enter Try.func20, Try.ntmps20
  go_wp2
  generalize w.alloc (oCn c) = V at *
  go_loopg [8, 21] l.length (fun gh s8 s21 wr => ∃ (k : Nat) (A1 : Option Addr) (c1 : Nat) (H : List Sh), k ≤ l.length ∧ gh = l.length - k ∧ s21 = .int .i64 k ∧ s8 = .slice A1 H.length c1 ∧ Hid (H = shK c.au l k) ∧ Hid (OW sh wr V.heap.size (.slice A1 H.length c1) H) ∧ Hid (Below V.heap.size V wr))
  case atStart => exact ⟨0, none, 0, [], by omega, rfl, rfl, rfl, Lib.hid rfl, Lib.hid (OW.nil sh V V.heap.size), Lib.hid (Below.refl _ _)⟩
  case round =>
    obtain ⟨k, A1, c1, H, hk, rfl, rfl, rfl, HH, HOw, HW⟩ := hrel
    by_cases hlt : k < l.length
    · obtain ⟨x, hx⟩ : ∃ x, l[k]? = some x := ⟨_, List.getElem?_eq_getElem hlt⟩
      obtain ⟨b, off, hAA, hpl, d0, d1, d2, d3, d4, d5⟩ := rowAc HR.out hx HW.out HB.out
      subst hAA
      have hlt' : (k : Int) < l.length := by omega
      have HXk := Lib.hid hx
      have hcb := hkeep1 HW.out HLT.out HN.out
      have e0 := cellOf1 hcb
      have hwl := lt_blk1 hcb
      have HA1 : Hid (Below wr.heap.size wr (wr.alloc (oAc x))) := Lib.hid (below_box _ _)
      have HC := Lib.hid (HO.out _ (HW.out.trans (HA1.out.mono HW.out.size)) x 5)
      generalize okA c.au 5 x = a at HC
      obtain ⟨y, hy⟩ : ∃ y, kdP c.au 5 x = y := ⟨_, rfl⟩
      rw [hy] at HC
      have HY := Lib.hid hy
      have HHl : Hid (H.length + [(⟨(k : Int), x.left⟩ : Sh)].length ≤ 1000000) := Lib.hid (by have := sh_le c.au l k; rw [← HH.out] at this; simp; omega)
      clear hx hcb hy
      cases y with
      | false =>
        go_wp2_with (first | ((with_reducible refine HC.out.mono ?_); rintro e w1 ⟨rfl, hB1⟩; have hV1 : Below wr.heap.size wr w1 := HA1.out.trans (hB1.mono HA1.out.size); have hz1 := hV1.size))
        go_roundg (l.length - (k + 1))
        case measure => omega
        case rel => exact ⟨k + 1, A1, c1, H, by omega, rfl, by go_num, rfl, Lib.hid (by rw [HH.out]; exact (sh_no HXk.out HY.out).symm), Lib.hid (HOw.out.of (by go_grown)), Lib.hid (HW.out.trans (Below.mono (by go_grown : Below wr.heap.size wr _) HW.out.size))⟩
      | true =>
        go_wp2_with (first
          | ((with_reducible refine HC.out.mono ?_); rintro e w1 ⟨rfl, hB1⟩; have hV1 : Below wr.heap.size wr w1 := HA1.out.trans (hB1.mono HA1.out.size); have hz1 := hV1.size; have z1 := blk_cell (heap_alloc_new wr (oAc x)) hB1 (by simp); have hs1 : wr.heap.size < w1.heap.size := Nat.lt_of_lt_of_le (by simp) hB1.size; have HV2 : Hid (Below wr.heap.size wr ((w1.alloc (oAu a)).alloc (.cells #[.int .i64 k, .int .i64 x.left] 76))) := Lib.hid (by go_grown); have HO2 := Lib.hid (HOw.out.of HV2.out); have HRW : Hid (RW sh ((w1.alloc (oAu a)).alloc (.cells #[.int .i64 k, .int .i64 x.left] 76)) (w1.heap.size + 1 + 1) (some ⟨w1.heap.size + 1, 0, none⟩) [⟨(k : Int), x.left⟩]) := Lib.hid (rw_at sh _ _ _ _ _ rfl rfl (by simp)))
          | (at_builtin; refine wpList_app sh rfl 73 rfl (.tmp 33) (.tmp 38) rfl V.heap.size (w1.heap.size + 1 + 1) (.slice A1 H.length c1) H [⟨(k : Int), x.left⟩] (some ⟨w1.heap.size + 1, 0, none⟩) 1 1 rfl rfl rfl HO2.out HRW.out HHl.out (Nat.le_trans HW.out.size HV2.out.size) ?_; intro A3 c3 w3 lm HLM HO3 HS3 HB3))
        go_roundg (l.length - (k + 1))
        case measure => omega
        case rel => exact ⟨k + 1, A3, c3, lm, by omega, rfl, by go_num, rfl, Lib.hid (by rw [HLM.out, HH.out]; exact (sh_yes HXk.out HY.out).symm), HO3, Lib.hid ((HW.out.trans (HV2.out.mono HW.out.size)).grown HS3.out (Nat.le_trans HW.out.size HV2.out.size) (fun j hj => (HO2.out.lt hj).1))⟩
    · have hlt' : decide ((k : Int) < l.length) = false := by simp; omega
      have hkn : k = l.length := by omega
      subst hkn
      have e1 := HH.out
      subst e1
      have HTk := Lib.hid (take_any A1 c1 (shK c.au l l.length) _ wr.heap.size m0 wr rfl (HOw.out.pw.rw') HFs.out (Nat.le_refl _) (by have := sh_le c.au l l.length; omega) hm)
      have HL9 : Hid (S.length ≤ 1000000 ∧ G.length ≤ 1000000) := Lib.hid (by have h9 := take_len (shK c.au l l.length) m0; rw [HT.out] at h9; have := sh_le c.au l l.length; simp only at h9; omega)
      have HSin := Lib.hid (set_in (L := c.au) (l := l) (m0 := m0) (S := S) (by rw [HT.out]))
      have HGr := Lib.hid (gone_rise (L := c.au) (l := l) (m0 := m0) (G := G) (by rw [HT.out]))
      clear hk
      generalize shK c.au l l.length = H at *
      go_wp2_with (first
        | ((with_reducible refine HTk.out.mono ?_); rintro e w1 ⟨A4, c4, S1, m1, A5, c5, G1, rfl, hT1, hTw⟩; have hT2 := hT1.out; rw [HT.out] at hT2; injection hT2 with q1 q2; injection q2 with q2 q3; subst q1; subst q2; subst q3; have HTw := Lib.hid hTw.out; have HVw1 : Hid (Below V.heap.size V w1) := Lib.hid (HW.out.trans (HTw.out.below.mono HW.out.size)); have HGB := Lib.hid (below_box w1 (.cells #[.slice A5 G.length c5] 77)); have HVw2 := Lib.hid (HVw1.out.trans (HGB.out.mono HVw1.out.size)); have HGN := Lib.hid (heap_alloc_new w1 (.cells #[.slice A5 G.length c5] 77)); have HCp := Lib.hid (copyOf_any A cp l.length B l _ rfl (HR.out.below HVw2.out HB.out) (by omega)); clear hT1 hTw)
        | ((with_reducible refine HCp.out.mono ?_); rintro e w3 ⟨A3, c3, rfl, HO3, hB3⟩))
      have HSr : Hid (RW sh (w1.alloc (.cells #[.slice A5 G.length c5] 77)) w1.heap.size A4 S) := Lib.hid (HTw.out.a.pw.rw'.below HGB.out (Nat.le_refl _))
      have HGr2 : Hid (RN (w1.alloc (.cells #[.slice A5 G.length c5] 77)) w1.heap.size A5 G) := Lib.hid (HTw.out.b.rn.of HGB.out)
      have HSZ : Hid ((w1.alloc (.cells #[.slice A5 G.length c5] 77)).heap.size = w1.heap.size + 1) := Lib.hid (by simp)
      have HB3 := Lib.hid hB3
      clear hB3 HCp HTk HTw HGB
      generalize w1.alloc (.cells #[.slice A5 G.length c5] 77) = w2 at *
      go_loopg [52] S.length (fun gh s52 wr2 => ∃ (j : Nat) (M : List Ac), j ≤ S.length ∧ gh = S.length - j ∧ s52 = .int .i64 j ∧ Hid (M = setK (S.take j) l) ∧ Hid (OW ac wr2 w2.heap.size (.slice A3 l.length c3) M) ∧ Hid (Below w2.heap.size w2 wr2))
      case atStart => exact ⟨0, l, by omega, rfl, rfl, Lib.hid rfl, HO3, HB3⟩
      case round =>
        obtain ⟨j, M, hj, rfl, rfl, HM, HMo, HW2⟩ := hrel
        have hl9 := HL9.out.1
        by_cases hjl : j < S.length
        · obtain ⟨s, hs⟩ : ∃ s, S[j]? = some s := ⟨_, List.getElem?_eq_getElem hjl⟩
          obtain ⟨p, off, hA4, hpl, hc⟩ := (HSr.out.below HW2.out (by rw [HSZ.out]; omega)).at' hs
          subst hA4
          obtain ⟨f0, f1⟩ := cellsSh (o := off + j * 2) hc
          have hsin := HSin.out s (List.mem_of_getElem? hs)
          obtain ⟨i, hi⟩ : ∃ i : Nat, s.aura = (i : Int) := ⟨s.aura.toNat, by omega⟩
          rw [hi] at f0
          have hil : i < M.length := by rw [HM.out, set_len]; omega
          have hil' : (i : Int) < l.length := by omega
          obtain ⟨x, hx⟩ : ∃ x, M[i]? = some x := ⟨_, List.getElem?_eq_getElem hil⟩
          have HMx := Lib.hid hx
          have hjl' : (j : Int) < S.length := by omega
          have hpw : p < wr.heap.size := by have := HW2.out.size; rw [HSZ.out] at this; omega
          obtain ⟨mb, hmb, hmb0, hmb1, hmc, hmf⟩ := HMo.out.at' hx
          subst hmb
          have HMB := Lib.hid hmb0
          have f2 := (cellsAc (o := i * 6) hmc).2.2.2.2.2
          have HNx : Hid (setK (S.take (j + 1)) l = M.set i (withL x s.left)) := Lib.hid (by rw [set_next hs, ← HM.out, hi]; show M.set ((i : Int).toNat) _ = _; rw [Int.toNat_natCast, get_some hx])
          clear hx hc hmc hs hsin hmb0
          go_wp2
          go_roundg (S.length - (j + 1))
          case measure => omega
          case rel => exact ⟨j + 1, M.set i (withL x s.left), by omega, rfl, by go_num, Lib.hid HNx.out.symm, Lib.hid (OW.of (w := wr.setCell ⟨mb, i * 6 + 5, none⟩ (.int .i64 s.left)) (l := M.set i (withL x s.left)) (HMo.out.poke rfl HMx.out (j := 5) (by decide) rfl) (below_box _ _)), Lib.hid ((HW2.out.setCell (p := ⟨mb, i * 6 + 5, none⟩) HMB.out _).alloc (by simp [World.setCell]; exact HW2.out.size) _)⟩
        · have hjl' : decide ((j : Int) < S.length) = false := by simp; omega
          have hM2 : M = setK S l := by rw [HM.out, set_done (by omega)]
          have hML : M.length = l.length := by rw [hM2, set_len]
          have HPt := Lib.hid (part_ta (q := w1.heap.size) (w := wr) (c := c3) (fun k => !decide ((k : Int) ∈ G)) (fun _ => wr) rfl hML (by omega) (fun _ => HMo.out.pw.rw') (Nat.le_refl _) (fun U k x hU _ hx => by
            have h1 : w1.heap.size < w2.heap.size := by rw [HSZ.out]; omega
            have h3 : w1.heap.size < wr.heap.size := by have := HW2.out.size; omega
            have h2 : w1.heap.size ≤ wr.heap.size := by omega
            have hbx := hkeep1 hU h3 (hkeep1 HW2.out h1 HGN.out)
            have hrn := (HGr2.out.of (HW2.out.mono (by omega))).of (hU.mono h2)
            exact (take1_any x k w1.heap.size hbx hrn (Nat.le_trans h2 hU.size) rfl HL9.out.2 HGr.out).mono fun e w' h => ⟨h.1, Up.of h.2, hU.trans (h.2.mono hU.size)⟩))
          have HE : Hid (goS (fun k => !decide ((k : Int) ∈ G)) M l.length = taK S G l l.length) := Lib.hid (by rw [hM2]; exact ta_go (fun s hs => (HSin.out s hs).1) l.length (Nat.le_refl _))
          rw [HE.out] at HPt
          clear hM2 hML
          go_wp2_with (first | ((with_reducible refine HPt.out.mono ?_); rintro e w5 ⟨A6, c6, A7, c7, rfl, HT9⟩))
          go_ret2
          have hfin : Below w.heap.size w wr := HX.out.trans ((HVw2.out.trans (HW2.out.mono HVw2.out.size)).mono HX.out.size)
          exact ⟨A6, c6, rfl, Lib.hid (HT9.out.a.mono hfin.size), hfin.trans (HT9.out.below.mono hfin.size)⟩
end Go.Proofs.Ytijobbdgiaiocaa.Con
