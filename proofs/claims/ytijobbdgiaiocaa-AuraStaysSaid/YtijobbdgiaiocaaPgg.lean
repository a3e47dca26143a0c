/-
  Contract of Right of package aura.
-/
import Derived.Test.YtijobbdgiaiocaaPga
import Derived.Test.YtijobbdgiaiocaaRtl
import Derived.Test.YtijobbdgiaiocaaRig
namespace Go.Proofs.Ytijobbdgiaiocaa.Con
open Go.RowKit Go.Maps

theorem not_ok {L : List Au} {l : List Ac} {k : Nat} {a : Ac} (hx : l[k]? = some a) {x : Bool} {P : Prop} (hX : x = true ↔ P ∧ RightL L l) (h : ¬ OkA L a) : false = x := by
  cases x with
  | false => rfl
  | true => exact absurd ((hX.1 rfl).2.ok hx) h
theorem not_one {L : List Au} {l : List Ac} {k : Nat} {a : Ac} (hx : l[k]? = some a) {x : Bool} {P : Prop} (hX : x = true ↔ P ∧ RightL L l) (h : ¬ plI l a.aura a.source = (k : Int)) : false = x := by
  cases x with
  | false => rfl
  | true => exact absurd ((pl_at hx).2 ((hX.1 rfl).2.one hx)) h
set_option maxRecDepth 20000 in
set_option maxHeartbeats 4000000 in
theorem aright_any {w : World} {B : Nat} {c : Cn} {A : Option Addr} {l : List Ac} {n cp : Nat} (hc : RC w B c) (hs : Sm c) (hn : l.length = n) (hl : (n : Int) ≤ 100000) (hr : RW ac w B A l) (hB : B ≤ w.heap.size) (x : Bool) (hx : x = true ↔ RightC c ∧ RightL c.au l) :
    Calls Try.prog 18 #[cnv c, .slice A n cp] w fun e w' => e = .returned (.bool x) ∧ Below w.heap.size w w' := by
  subst hn
  have hb := below_box w (oCn c)
  obtain ⟨rc, hrc⟩ := bex (RightC c)
  have HX := Lib.hid hb; have HA := Lib.hid ((auC hc hB hs).of hb); have HN := Lib.hid (heap_alloc_new w (oCn c)); have HR := Lib.hid (hr.below hb hB)
  have HB := Lib.hid (Nat.le_trans hB hb.size); have HLT : Hid (w.heap.size < (w.alloc (oCn c)).heap.size) := Lib.hid (by simp)
  have HRc := Lib.hid (right_c (hc.below hb hB) (Nat.le_trans hB hb.size) hs rc hrc)
  have HQ := Lib.hid hx; have HRE := Lib.hid hrc
  clear hc hs hr hB hb hx hrc
  go_enter Try.func18, Try.ntmps18
  generalize hVV : w.alloc (oCn c) = V at HX HA HN HR HB HLT HRc
  have HVV := Lib.hid hVV; clear hVV
  cases rc with
  | false =>
    have HF : Hid (false = x) := Lib.hid (by
      cases x with
      | false => rfl
      | true => have := HRE.out.2 (HQ.out.1 rfl).1; cases this)
    rw [← HVV.out] at HRc HX
    go_wp2_with (first | ((with_reducible refine HRc.out.mono ?_); rintro e w1 ⟨rfl, hB1⟩))
    go_ret
    exact ⟨ret_bool HF.out, HX.out.trans (hB1.mono HX.out.size)⟩
  | true =>
    by_cases h16 : (16 : Int) < l.length
    · have HF : Hid (false = x) := Lib.hid (by
        cases x with
        | false => rfl
        | true => have := (HQ.out.1 rfl).2.1; omega)
      rw [← HVV.out] at HRc HX
      go_wp2_with (first | ((with_reducible refine HRc.out.mono ?_); rintro e w1 ⟨rfl, hB1⟩))
      go_ret
      exact ⟨ret_bool HF.out, HX.out.trans (hB1.mono HX.out.size)⟩
    · have h16' : decide ((16 : Int) < l.length) = false := by simp; omega
      have H16 : Hid (l.length ≤ 16) := Lib.hid (by omega)
      clear h16
      have HRc2 := HRc
      rw [← HVV.out] at HRc2
      go_wp2_with (first | ((with_reducible refine HRc2.out.mono ?_); rintro e w1 ⟨rfl, hB1⟩; have HB1 := Lib.hid hB1; clear hB1))
      have HW1 : Hid (Below V.heap.size V w1) := Lib.hid (by have h9 := HB1.out; rw [HVV.out] at h9; exact h9)
      clear HB1 HRc HRc2 h16'
      go_loopg [19] l.length (fun gh s19 wr => ∃ (k : Nat), k ≤ l.length ∧ gh = l.length - k ∧ s19 = .int .i64 k ∧ Hid (RtK c.au l k) ∧ Hid (Below V.heap.size V wr))
      case atStart => exact ⟨0, by omega, rfl, rfl, Lib.hid (rt_zero _ _), HW1⟩
      case round =>
        obtain ⟨k, hk, rfl, rfl, HK, HW⟩ := hrel
        by_cases hlt : k < l.length
        · obtain ⟨y, hy⟩ : ∃ y, l[k]? = some y := ⟨_, List.getElem?_eq_getElem hlt⟩
          obtain ⟨b, off, hAA, hpl, d0, d1, d2, d3, d4, d5⟩ := rowAc HR.out hy HW.out HB.out
          subst hAA
          have hlt' : (k : Int) < l.length := by omega
          have HXk := Lib.hid hy
          have hcb := hkeep1 HW.out HLT.out HN.out
          have e0 := cellOf1 hcb
          have hwl := lt_blk1 hcb
          have HA1 : Hid (Below wr.heap.size wr (wr.alloc (oAc y))) := Lib.hid (below_box _ _)
          have HVr : Hid (Below V.heap.size V (wr.alloc (oAc y))) := Lib.hid (HW.out.trans (HA1.out.mono HW.out.size))
          have HC := Lib.hid (HA.out _ HVr.out y.aura)
          obtain ⟨a, ha⟩ : ∃ a, lkA c.au y.aura = a := ⟨_, rfl⟩
          obtain ⟨u, hu⟩ : ∃ u, lkB c.au y.aura = u := ⟨_, rfl⟩
          rw [ha, hu] at HC
          have HAE := Lib.hid ha; have HUE := Lib.hid hu
          have hbV : V.heap.size ≤ wr.heap.size := HW.out.size
          clear hy hcb ha hu
          cases u with
          | false =>
            have HF : Hid (false = x) := Lib.hid (not_ok HXk.out HQ.out (fun h => by have := h.1; rw [HUE.out] at this; cases this))
            go_wp2_with (first | ((with_reducible refine HC.out.mono ?_); rintro e w1 ⟨rfl, hB1⟩; have hV1 : Below wr.heap.size wr w1 := HA1.out.trans (hB1.mono HA1.out.size); have hz1 := hV1.size; have z1 := blk_cell (heap_alloc_new wr (oAc y)) hB1 (by simp); have hs1 : wr.heap.size < w1.heap.size := Nat.lt_of_lt_of_le (by simp) hB1.size; have HV1 := Lib.hid hV1))
            go_ret
            exact ⟨ret_bool HF.out, HX.out.trans (Below.mono (HW.out.trans (Below.mono (by go_grown : Below wr.heap.size wr _) hbV)) HX.out.size)⟩
          | true =>
            by_cases t1 : y.stacks < 1
            · have HF : Hid (false = x) := Lib.hid (not_ok HXk.out HQ.out (fun h => by have := h.2.1; omega))
              go_wp2_with (first | ((with_reducible refine HC.out.mono ?_); rintro e w1 ⟨rfl, hB1⟩; have hV1 : Below wr.heap.size wr w1 := HA1.out.trans (hB1.mono HA1.out.size); have hz1 := hV1.size; have z1 := blk_cell (heap_alloc_new wr (oAc y)) hB1 (by simp); have hs1 : wr.heap.size < w1.heap.size := Nat.lt_of_lt_of_le (by simp) hB1.size; have HV1 := Lib.hid hV1))
              go_ret
              exact ⟨ret_bool HF.out, HX.out.trans (Below.mono (HW.out.trans (Below.mono (by go_grown : Below wr.heap.size wr _) hbV)) HX.out.size)⟩
            · have t1' : decide (y.stacks < 1) = false := by simpa using t1
              by_cases t2 : a.stacks < y.stacks
              · have HF : Hid (false = x) := Lib.hid (not_ok HXk.out HQ.out (fun h => by have := h.2.2.1; rw [HAE.out] at this; omega))
                go_wp2_with (first | ((with_reducible refine HC.out.mono ?_); rintro e w1 ⟨rfl, hB1⟩; have hV1 : Below wr.heap.size wr w1 := HA1.out.trans (hB1.mono HA1.out.size); have hz1 := hV1.size; have z1 := blk_cell (heap_alloc_new wr (oAc y)) hB1 (by simp); have hs1 : wr.heap.size < w1.heap.size := Nat.lt_of_lt_of_le (by simp) hB1.size; have HV1 := Lib.hid hV1))
                go_ret
                exact ⟨ret_bool HF.out, HX.out.trans (Below.mono (HW.out.trans (Below.mono (by go_grown : Below wr.heap.size wr _) hbV)) HX.out.size)⟩
              · have t2' : decide (a.stacks < y.stacks) = false := by simpa using t2
                by_cases t3 : y.left < 0
                · have HF : Hid (false = x) := Lib.hid (not_ok HXk.out HQ.out (fun h => by have := h.2.2.2; omega))
                  go_wp2_with (first | ((with_reducible refine HC.out.mono ?_); rintro e w1 ⟨rfl, hB1⟩; have hV1 : Below wr.heap.size wr w1 := HA1.out.trans (hB1.mono HA1.out.size); have hz1 := hV1.size; have z1 := blk_cell (heap_alloc_new wr (oAc y)) hB1 (by simp); have hs1 : wr.heap.size < w1.heap.size := Nat.lt_of_lt_of_le (by simp) hB1.size; have HV1 := Lib.hid hV1))
                  go_ret
                  exact ⟨ret_bool HF.out, HX.out.trans (Below.mono (HW.out.trans (Below.mono (by go_grown : Below wr.heap.size wr _) hbV)) HX.out.size)⟩
                · have t3' : decide (y.left < 0) = false := by simpa using t3
                  have HOk : Hid (OkA c.au y) := Lib.hid ⟨HUE.out, by omega, by rw [HAE.out]; omega, by omega⟩
                  obtain ⟨i, hi⟩ : ∃ i, plI l y.aura y.source = i := ⟨_, rfl⟩
                  have HPE := Lib.hid hi
                  clear hi t1 t2 t3
                  by_cases t4 : i = (k : Int)
                  · have HNx : Hid (RtK c.au l (k + 1)) := Lib.hid (rt_next HK.out HXk.out HOk.out ((pl_at HXk.out).1 (by rw [HPE.out]; exact t4)))
                    subst t4
                    go_wp2_with (first | ((with_reducible refine HC.out.mono ?_); rintro e w1 ⟨rfl, hB1⟩; have hV1 : Below wr.heap.size wr w1 := HA1.out.trans (hB1.mono HA1.out.size); have hz1 := hV1.size; have z1 := blk_cell (heap_alloc_new wr (oAc y)) hB1 (by simp); have hs1 : wr.heap.size < w1.heap.size := Nat.lt_of_lt_of_le (by simp) hB1.size; have HV1 := Lib.hid hV1; have hV2 : Below wr.heap.size wr (w1.alloc (oAu a)) := hV1.alloc hz1 _; have hV3 : Below V.heap.size V (w1.alloc (oAu a)) := HW.out.trans (hV2.mono hbV); have HPl := Lib.hid (place_any (w := w1.alloc (oAu a)) (c := cp) y.aura y.source rfl (by omega) (HR.out.below hV3 HB.out) (Nat.le_trans HB.out hV3.size)); rw [HPE.out] at HPl; have HV3 := Lib.hid hV3; clear hV2 hV3) | ((with_reducible refine HPl.out.mono ?_); rintro e w2 ⟨rfl, hB2⟩; have HV4 := Lib.hid (HV3.out.trans (hB2.mono HV3.out.size))))
                    go_roundg (l.length - (k + 1))
                    case measure => omega
                    case rel => exact ⟨k + 1, by omega, rfl, by go_num, HNx, HV4⟩
                  · have t4' : (i == (k : Int)) = false := by simpa using t4
                    have HT4 := Lib.hid t4
                    clear t4
                    have HF : Hid (false = x) := Lib.hid (not_one HXk.out HQ.out (by rw [HPE.out]; exact HT4.out))
                    go_wp2_with (first | ((with_reducible refine HC.out.mono ?_); rintro e w1 ⟨rfl, hB1⟩; have hV1 : Below wr.heap.size wr w1 := HA1.out.trans (hB1.mono HA1.out.size); have hz1 := hV1.size; have z1 := blk_cell (heap_alloc_new wr (oAc y)) hB1 (by simp); have hs1 : wr.heap.size < w1.heap.size := Nat.lt_of_lt_of_le (by simp) hB1.size; have HV1 := Lib.hid hV1; have hV2 : Below wr.heap.size wr (w1.alloc (oAu a)) := hV1.alloc hz1 _; have hV3 : Below V.heap.size V (w1.alloc (oAu a)) := HW.out.trans (hV2.mono hbV); have HPl := Lib.hid (place_any (w := w1.alloc (oAu a)) (c := cp) y.aura y.source rfl (by omega) (HR.out.below hV3 HB.out) (Nat.le_trans HB.out hV3.size)); rw [HPE.out] at HPl; have HV3 := Lib.hid hV3; clear hV2 hV3) | ((with_reducible refine HPl.out.mono ?_); rintro e w2 ⟨rfl, hB2⟩; have HV4 := Lib.hid (HV3.out.trans (hB2.mono HV3.out.size))))
                    go_ret
                    exact ⟨ret_bool HF.out, HX.out.trans (HV4.out.mono HX.out.size)⟩
        · have hlt' : decide ((k : Int) < l.length) = false := by simp; omega
          have HF : Hid (true = x) := Lib.hid (by
            have hkn : k = l.length := by omega
            have h1 := HK.out; rw [hkn] at h1
            exact (HQ.out.2 ⟨HRE.out.1 (by first | rfl | trivial), rt_all h1 H16.out⟩).symm)
          go_wp2
          go_ret
          exact ⟨ret_bool HF.out, HX.out.trans (HW.out.mono HX.out.size)⟩
end Go.Proofs.Ytijobbdgiaiocaa.Con
