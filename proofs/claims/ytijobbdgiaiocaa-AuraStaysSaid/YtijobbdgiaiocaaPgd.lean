/-
  Contract of Tick of package aura.
-/
import Derived.Test.YtijobbdgiaiocaaPgc
import Derived.Test.YtijobbdgiaiocaaElx
namespace Go.Proofs.Ytijobbdgiaiocaa.Con
open Go.RowKit Go.Maps

theorem tk_yes {L : List Au} {now : Int} {x : Ac} (h : tkP L now x = true) : tkA L now x = ⟨x.aura, x.source, x.stacks, x.untl, held (x.nxt + (lkA L x.aura).every), x.left⟩ := by unfold tkA; rw [if_pos h]
theorem tk_all (L : List Au) (now : Int) {l : List Ac} {k : Nat} (h : l.length ≤ k) : tkK L now l k = l.map (tkA L now) := by unfold tkK; rw [List.take_of_length_le h, List.drop_eq_nil_of_le h]; simp
theorem td_yes {L : List Au} {now : Int} {l : List Ac} {k : Nat} {x : Ac} (hx : l[k]? = some x) (h : tkP L now x = true) : tkD L now l (k + 1) = tkD L now l k ++ [x] := go_yes hx (by rw [get_some hx]; exact h)
theorem td_no {L : List Au} {now : Int} {l : List Ac} {k : Nat} {x : Ac} (hx : l[k]? = some x) (h : tkP L now x = false) : tkD L now l (k + 1) = tkD L now l k := go_no (by rw [get_some hx]; exact h)
theorem td_le (L : List Au) (now : Int) (l : List Ac) (k : Nat) : (tkD L now l k).length ≤ k := go_le _ _ _
/-- Two rows at hand, one that is copied, one that is new. -/
theorem Two.copy {α β : Type} {E : El α} {F : El β} {w0 V : World} {base : Nat} {v : Value} {l : List α} (h : OW E V base v l) (hb : Below base w0 V) (ht : base ≤ V.heap.size) : Two E F w0 V base v (.slice none 0 0) l [] :=
  ⟨h, OW.nil F V base, fun _ _ hk => (by cases hk), hb, ht⟩
/-- Behind an append onto the second row, two boxes that were there ahead of it stand. -/
theorem two_kept {V wr w1 w3 : World} {x : Ac} {a : Au} {M D : List Ac} {v u : Value} (h : Two ac ac V w1 V.heap.size v u M D) (hS : ((w1.alloc (oAu a)).alloc (oAc x)).grownBy w3 u.ownBlock) (hX : (w1.alloc (oAu a)).heap[wr.heap.size]? = some (oAc x)) (hA : (w1.alloc (oAu a)).heap[w1.heap.size]? = some (oAu a)) (hs : wr.heap.size < w1.heap.size) (hu : ∀ k, u.ownBlock = some k → k < wr.heap.size) : w3.heap[wr.heap.size]? = some (oAc x) ∧ w3.heap[w1.heap.size]? = some (oAu a) := by
  have h1 : wr.heap.size < (w1.alloc (oAu a)).heap.size := by simp; omega
  have h2 : w1.heap.size < (w1.alloc (oAu a)).heap.size := by simp
  constructor
  · rw [hS.block _ (by simp; omega) (fun e => by have := hu _ e.symm; omega), Below.heap_alloc _ _ _ h1]; exact hX
  · rw [hS.block _ (by simp; omega) (fun e => by have := (h.b.lt e.symm).2; omega), Below.heap_alloc _ _ _ h2]; exact hA

set_option maxRecDepth 20000 in
set_option maxHeartbeats 4000000 in
theorem tick_any {w : World} {B : Nat} {c : Cn} {A : Option Addr} {l : List Ac} {n cp : Nat} (now : Int) (hA : AuC c w) (hau : ∀ a ∈ c.au, NAu a) (hac : ∀ a ∈ l, NAc a) (hn : l.length = n) (hl : (n : Int) ≤ 100000) (hr : RW ac w B A l) (hB : B ≤ w.heap.size) :
    Calls Try.prog 14 #[cnv c, .slice A n cp, .int .i64 now] w (DuA w (l.map (tkA c.au now)) (tkD c.au now l n)) := by
  subst hn
  have hb := below_box w (oCn c)
  have HX := Lib.hid hb; have HA := Lib.hid (hA.of hb); have HN := Lib.hid (heap_alloc_new w (oCn c)); have HR := Lib.hid (hr.below hb hB)
  have HB := Lib.hid (Nat.le_trans hB hb.size); have HAU := Lib.hid hau; have HAC := Lib.hid hac; have HLT : Hid (w.heap.size < (w.alloc (oCn c)).heap.size) := Lib.hid (by simp)
  have HCp := Lib.hid (copyOf_any A cp l.length B l (w.alloc (oCn c)) rfl (hr.below hb hB) hl)
  clear hA hau hac hr hB hb
  go_enter Try.func14, Try.ntmps14
  go_wp2_with ((with_reducible refine HCp.out.mono ?_); rintro e w0 ⟨A1, c1, rfl, HO0, hB0⟩; have HB0 := Lib.hid hB0; clear hB0)
  generalize w.alloc (oCn c) = V at *
  have HS0 : Hid (Two ac ac V w0 V.heap.size (.slice A1 l.length c1) (.slice none 0 0) l []) := Lib.hid (Two.copy HO0.out HB0.out HB0.out.size)
  clear HCp HO0 HB0
  go_loopg [9, 18] l.length (fun gh s9 s18 wr => ∃ (k : Nat) (M : List Ac) (A2 : Option Addr) (c2 : Nat) (D : List Ac), k ≤ l.length ∧ gh = l.length - k ∧ s18 = .int .i64 k ∧ s9 = .slice A2 D.length c2 ∧ Hid (M = tkK c.au now l k) ∧ Hid (D = tkD c.au now l k) ∧ Hid (Two ac ac V wr V.heap.size (.slice A1 l.length c1) (.slice A2 D.length c2) M D))
  case atStart => exact ⟨0, l, none, 0, [], by omega, rfl, rfl, rfl, Lib.hid tk_zero.symm, Lib.hid rfl, HS0⟩
  case round =>
    obtain ⟨k, M, A2, c2, D, hk, rfl, rfl, rfl, HM, HD, HTW⟩ := hrel
    by_cases hlt : k < l.length
    · obtain ⟨x, hx⟩ : ∃ x, l[k]? = some x := ⟨_, List.getElem?_eq_getElem hlt⟩
      obtain ⟨b, off, hAA, hpl, d0, d1, d2, d3, d4, d5⟩ := rowAc HR.out hx HTW.out.below HB.out
      subst hAA
      have hlt' : (k : Int) < l.length := by omega
      have HXk := Lib.hid hx
      have hcb := hkeep1 HTW.out.below HLT.out HN.out
      have e0 := cellOf1 hcb
      have hwl := lt_blk1 hcb
      have HA1 : Hid (Below wr.heap.size wr (wr.alloc (oAc x))) := Lib.hid (below_box _ _)
      have HT1 := Lib.hid (HTW.out.of HA1.out)
      obtain ⟨a, ha⟩ : ∃ a, lkA c.au x.aura = a := ⟨_, rfl⟩
      obtain ⟨y, hy⟩ : ∃ y, lkB c.au x.aura = y := ⟨_, rfl⟩
      have HC := Lib.hid (HA.out _ (HTW.out.below.trans (HA1.out.mono HTW.out.top)) x.aura)
      have HNx := Lib.hid (HAC.out x (List.mem_of_getElem? hx))
      have HNa := Lib.hid (lk_nau HAU.out x.aura)
      rw [ha] at HNa
      rw [ha, hy] at HC
      have hP : tkP c.au now x = ((y && decide (0 < a.every)) && decide (x.nxt ≤ now)) := by unfold tkP; rw [ha, hy]
      have HAE := Lib.hid ha
      have HMx : Hid (M[k]? = some x) := Lib.hid (by rw [HM.out]; exact tk_get hx)
      have HDl : Hid (D.length + [x].length ≤ 1000000) := Lib.hid (by have := td_le c.au now l k; rw [← HD.out] at this; simp; omega)
      clear hx hcb ha hy
      cases y with
      | false =>
        have HP : Hid (tkP c.au now x = false) := Lib.hid (by rw [hP]; rfl)
        clear hP
        go_wp2_with (first | ((with_reducible refine HC.out.mono ?_); rintro e w1 ⟨rfl, hB1⟩; have hz1 := hB1.size; have hs1 : wr.heap.size < w1.heap.size := Nat.lt_of_lt_of_le (by simp) hz1; have z1 := blk_cell (heap_alloc_new wr (oAc x)) hB1 (by simp); have HT2 := Lib.hid (HT1.out.of hB1); have HBX : Hid (w1.heap[wr.heap.size]? = some (oAc x)) := Lib.hid (hkeep1 hB1 (by simp) (heap_alloc_new wr (oAc x))); clear hB1))
        go_roundg (l.length - (k + 1))
        case measure => omega
        case rel => exact ⟨k + 1, M, A2, c2, D, by omega, rfl, by go_num, rfl, Lib.hid (by rw [HM.out]; exact tk_same HXk.out HP.out), Lib.hid (by rw [HD.out]; exact (td_no HXk.out HP.out).symm), Lib.hid (HT2.out.of (by go_grown))⟩
      | true =>
        by_cases hh1 : 0 < a.every
        · by_cases hh2 : x.nxt ≤ now
          · have hF1 : Fits x.nxt := HNx.out.2.1
            have hF2 : Fits a.every := HNa.out.2.1
            have hE9 := hP
            simp [hh1, hh2] at hE9
            have HP : Hid (tkP c.au now x = true) := Lib.hid hE9
            clear hP hE9
            have HW0 : Hid (∀ j, (Value.slice A2 D.length c2).ownBlock = some j → j < wr.heap.size) := Lib.hid (fun j hj => (HTW.out.b.lt hj).2)
            have HXe : Hid (tkA c.au now x = ⟨x.aura, x.source, x.stacks, x.untl, held (x.nxt + a.every), x.left⟩) := Lib.hid (by rw [tk_yes HP.out, HAE.out])
            go_wp2_with (first
              | ((with_reducible refine HC.out.mono ?_); rintro e w1 ⟨rfl, hB1⟩; have hz1 := hB1.size; have hs1 : wr.heap.size < w1.heap.size := Nat.lt_of_lt_of_le (by simp) hz1; have z1 := blk_cell (heap_alloc_new wr (oAc x)) hB1 (by simp); have HT2 := Lib.hid (HT1.out.of hB1); have HBX : Hid (w1.heap[wr.heap.size]? = some (oAc x)) := Lib.hid (hkeep1 hB1 (by simp) (heap_alloc_new wr (oAc x))); have HT3 := Lib.hid (HT2.out.of (below_box w1 (oAu a))); have HBA : Hid ((w1.alloc (oAu a)).heap[w1.heap.size]? = some (oAu a)) := Lib.hid (heap_alloc_new w1 (oAu a)); have HBX2 : Hid ((w1.alloc (oAu a)).heap[wr.heap.size]? = some (oAc x)) := Lib.hid ((Below.heap_alloc _ _ _ hs1).trans HBX.out); have HT4 := Lib.hid (HT3.out.of (below_box (w1.alloc (oAu a)) (oAc x))); have HRW : Hid (RW ac ((w1.alloc (oAu a)).alloc (oAc x)) (w1.heap.size + 1 + 1) (some ⟨w1.heap.size + 1, 0, none⟩) [x]) := Lib.hid (rw_at ac _ _ _ _ _ rfl rfl (by simp)); clear hB1)
              | (at_builtin; refine wpList_app ac rfl 32 rfl (.tmp 42) (.tmp 44) rfl V.heap.size (w1.heap.size + 1 + 1) (.slice A2 D.length c2) D [x] (some ⟨w1.heap.size + 1, 0, none⟩) 1 1 rfl rfl rfl HT4.out.b HRW.out HDl.out HT4.out.top ?_; intro A3 c3 w3 lm HLM HO3 HS3 HB3; have HT5 := Lib.hid (HT4.out.put2 HS3.out HO3.out HB3.out); obtain ⟨hbx3, hba3⟩ := two_kept HT2.out HS3.out HBX2.out HBA.out hs1 HW0.out; have u1 := cellOf1 hbx3; have u2 := cellOf1 hba3; have u3 := lt_blk1 hbx3; have u4 := lt_blk1 hba3; obtain ⟨mb, hmb, hmb0, hmb1, hmc, hmf⟩ := HT5.out.a.at' HMx.out; subst hmb; obtain ⟨q0, q1, q2, q3, q4, q5⟩ := cellsAc (o := k * 6) hmc; clear hmc hbx3 hba3)
              | ((with_reducible refine (add_any _ _ _ hF1 hF2).mono ?_); rintro e w4 ⟨rfl, rfl⟩))
            go_roundg (l.length - (k + 1))
            case measure => omega
            case rel => exact ⟨k + 1, M.set k (tkA c.au now x), A3, c3, lm, by omega, rfl, by go_num, rfl, Lib.hid (by rw [HM.out]; exact tk_next HXk.out), Lib.hid (by rw [HLM.out, HD.out]; exact (td_yes HXk.out HP.out).symm), Lib.hid (by
              rw [HXe.out]
              exact HT5.out.poke rfl HMx.out (j := 4) (by decide) rfl)⟩
          · have hh2' : decide (x.nxt ≤ now) = false := by simpa using hh2
            have HP : Hid (tkP c.au now x = false) := Lib.hid (by rw [hP, hh2']; simp)
            clear hP
            go_wp2_with (first | ((with_reducible refine HC.out.mono ?_); rintro e w1 ⟨rfl, hB1⟩; have hz1 := hB1.size; have hs1 : wr.heap.size < w1.heap.size := Nat.lt_of_lt_of_le (by simp) hz1; have z1 := blk_cell (heap_alloc_new wr (oAc x)) hB1 (by simp); have HT2 := Lib.hid (HT1.out.of hB1); have HBX : Hid (w1.heap[wr.heap.size]? = some (oAc x)) := Lib.hid (hkeep1 hB1 (by simp) (heap_alloc_new wr (oAc x))); clear hB1))
            go_roundg (l.length - (k + 1))
            case measure => omega
            case rel => exact ⟨k + 1, M, A2, c2, D, by omega, rfl, by go_num, rfl, Lib.hid (by rw [HM.out]; exact tk_same HXk.out HP.out), Lib.hid (by rw [HD.out]; exact (td_no HXk.out HP.out).symm), Lib.hid (HT2.out.of (by go_grown))⟩
        · have hh1' : decide (0 < a.every) = false := by simpa using hh1
          have HP : Hid (tkP c.au now x = false) := Lib.hid (by rw [hP, hh1']; simp)
          clear hP
          go_wp2_with (first | ((with_reducible refine HC.out.mono ?_); rintro e w1 ⟨rfl, hB1⟩; have hz1 := hB1.size; have hs1 : wr.heap.size < w1.heap.size := Nat.lt_of_lt_of_le (by simp) hz1; have z1 := blk_cell (heap_alloc_new wr (oAc x)) hB1 (by simp); have HT2 := Lib.hid (HT1.out.of hB1); have HBX : Hid (w1.heap[wr.heap.size]? = some (oAc x)) := Lib.hid (hkeep1 hB1 (by simp) (heap_alloc_new wr (oAc x))); clear hB1))
          go_roundg (l.length - (k + 1))
          case measure => omega
          case rel => exact ⟨k + 1, M, A2, c2, D, by omega, rfl, by go_num, rfl, Lib.hid (by rw [HM.out]; exact tk_same HXk.out HP.out), Lib.hid (by rw [HD.out]; exact (td_no HXk.out HP.out).symm), Lib.hid (HT2.out.of (by go_grown))⟩
    · have hlt' : decide ((k : Int) < l.length) = false := by simp; omega
      have hkn : k = l.length := by omega
      subst hkn
      go_wp2
      go_ret2
      have e1 := HM.out; have e2 := HD.out
      rw [tk_all _ _ (Nat.le_refl _)] at e1
      subst e1; subst e2
      have hl9 : (l.map (tkA c.au now)).length = l.length := by simp
      exact ⟨A1, c1, A2, c2, ret_two hl9.symm rfl, Lib.hid (by rw [hl9]; exact HTW.out.base HX.out.size HX.out)⟩
end Go.Proofs.Ytijobbdgiaiocaa.Con
