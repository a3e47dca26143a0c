/-
  Contract of the document's own Take.
-/
import Derived.Test.YtijobbdgiaiocaaDca
import Derived.Test.YtijobbdgiaiocaaPgf
namespace Go.Proofs.Ytijobbdgiaiocaa.Con
open Go.RowKit Go.Maps
theorem box_left {w : World} {P : Nat} {y : Ac} (h : w.heap[P]? = some (oAc y)) (v : Int) : (w.setCell ⟨P, 5, none⟩ (.int .i64 v)).heap[P]? = some (oAc (withL y v)) := by
  simp only [World.setCell, Array.getElem?_modify, h]; simp [withL]
theorem withL_self (x : Ac) : withL x x.left = x := rfl
theorem lost_next {G : List Int} {j : Nat} {g : Int} (hg : G[j]? = some g) (k : Int) : decide (k ∈ G.take (j + 1)) = (decide (k ∈ G.take j) || (g == k)) := by
  rw [List.take_add_one, hg, Bool.eq_iff_iff]
  simp [List.mem_append]
  constructor
  · rintro (h | h)
    · exact .inl h
    · exact .inr h.symm
  · rintro (h | h)
    · exact .inl h
    · exact .inr h.symm

set_option maxRecDepth 20000 in
set_option maxHeartbeats 4000000 in
theorem rtake15_any {w : World} {B : Nat} {c : Cn} {A : Option Addr} {l : List Ac} {n cp : Nat} (m0 : Int) {S : List Sh} {m : Int} {G : List Int} (hT : takeI (shK c.au l l.length) m0 = (S, m, G)) (hA : RuC c w) (hac : ∀ a ∈ l, NAc a) (hn : l.length = n) (hl : (n : Int) ≤ 90000) (hr : RW ac w B A l) (hB : B ≤ w.heap.size) (hm : Fits m0) :
    Calls Try.prog 21 #[cnv c, .slice A n cp, .int .i64 m0] w (TaA w (taK S G l n) m) := by
  subst hn
  have hb := below_box w (oCn c)
  have HX := Lib.hid hb; have HA := Lib.hid (hA.of hb); have HN := Lib.hid (heap_alloc_new w (oCn c)); have HR := Lib.hid (hr.below hb hB)
  have HB := Lib.hid (Nat.le_trans hB hb.size); have HLT : Hid (w.heap.size < (w.alloc (oCn c)).heap.size) := Lib.hid (by simp)
  have HFs := Lib.hid (sh_fits (L := c.au) hac (by omega))
  have HT := Lib.hid hT
  clear hA hr hB hb hT hac
  go_enter Try.func21, Try.ntmps21
  go_wp2
  generalize w.alloc (oCn c) = V at *
  go_loopg [8, 9] l.length (fun gh s8 s9 wr => ∃ (k : Nat) (A1 : Option Addr) (c1 : Nat) (H : List Sh), k ≤ l.length ∧ gh = l.length - k ∧ s9 = .int .i64 k ∧ s8 = .slice A1 H.length c1 ∧ Hid (H = shK c.au l k) ∧ Hid (OW sh wr V.heap.size (.slice A1 H.length c1) H) ∧ Hid (Below V.heap.size V wr))
  case atStart => exact ⟨0, none, 0, [], by omega, rfl, rfl, rfl, Lib.hid rfl, Lib.hid (OW.nil sh V V.heap.size), Lib.hid (Below.refl _ _)⟩
  case round =>
    obtain ⟨k, A1, c1, H, hk, rfl, rfl, rfl, HH, HOw, HW⟩ := hrel
    by_cases hlt : k < l.length
    · skip
      obtain ⟨x, hx⟩ : ∃ x, l[k]? = some x := ⟨_, List.getElem?_eq_getElem hlt⟩
      obtain ⟨b, off, hAA, hpl, d0, d1, d2, d3, d4, d5⟩ := rowAc HR.out hx HW.out HB.out
      subst hAA
      have hlt' : (k : Int) < l.length := by omega
      have HXk := Lib.hid hx
      have HCB : Hid (wr.heap[w.heap.size]? = some (oCn c)) := Lib.hid (hkeep1 HW.out HLT.out HN.out)
      have HBb : Hid (b < wr.heap.size) := Lib.hid (by have := HW.out.size; have := HB.out; omega)
      have HZa : Hid (∀ wz, Below wr.heap.size wr wz → wz.cell? ⟨b, off + k * 6, none⟩ = some (.int .i64 x.aura) ∧ wz.cell? ⟨b, off + k * 6 + 1, none⟩ = some (.int .i64 x.source) ∧ wz.cell? ⟨b, off + k * 6 + 2, none⟩ = some (.int .i64 x.stacks) ∧ wz.cell? ⟨b, off + k * 6 + 3, none⟩ = some (.int .i64 x.untl) ∧ wz.cell? ⟨b, off + k * 6 + 4, none⟩ = some (.int .i64 x.nxt) ∧ wz.cell? ⟨b, off + k * 6 + 5, none⟩ = some (.int .i64 x.left)) := Lib.hid (fun wz hz => ⟨(hz.cell (p := ⟨b, off + k * 6, none⟩) HBb.out).trans d0, (hz.cell (p := ⟨b, off + k * 6 + 1, none⟩) HBb.out).trans d1, (hz.cell (p := ⟨b, off + k * 6 + 2, none⟩) HBb.out).trans d2, (hz.cell (p := ⟨b, off + k * 6 + 3, none⟩) HBb.out).trans d3, (hz.cell (p := ⟨b, off + k * 6 + 4, none⟩) HBb.out).trans d4, (hz.cell (p := ⟨b, off + k * 6 + 5, none⟩) HBb.out).trans d5⟩)
      have HZ : Hid (∀ wz, Below wr.heap.size wr wz → wz.cell? ⟨b, off + k * 6, none⟩ = some (.int .i64 x.aura)) := Lib.hid (fun wz hz => (HZa.out wz hz).1)
      have HC := Lib.hid (fun U (hU : Below wr.heap.size wr U) => HA.out U (HW.out.trans (hU.mono HW.out.size)) x.aura)
      obtain ⟨a, ha⟩ : ∃ a, lkA c.au x.aura = a := ⟨_, rfl⟩
      obtain ⟨u, hu⟩ : ∃ u, lkB c.au x.aura = u := ⟨_, rfl⟩
      rw [ha, hu] at HC
      have HAE := Lib.hid ha; have HUE := Lib.hid hu
      have HKd : Hid (kdP c.au 5 x = (u && decide (a.kind = 5))) := Lib.hid (by unfold kdP; rw [ha, hu])
      have HHl : Hid (H.length + [(⟨(k : Int), x.left⟩ : Sh)].length ≤ 1000000) := Lib.hid (by have := sh_le c.au l k; rw [← HH.out] at this; simp; omega)
      clear hx ha hu d0 d1 d2 d3 d4 d5 hpl
      go_wp2
      refine wp_region_noPanic ?_
      refine wp_region_held_drew (S := fun w' => Below wr.heap.size wr w') (by kernel_rfl) ((Below.refl _ _).drew) (fun hS0 => ?_)
      generalize wr.drew = v0 at hS0 ⊢
      refine wpAnyH_take (i := 0) (oi := ⟨some 28, Op.load 31 (Operand.tmp 3), 31, _, _, none⟩) (v := ?va0) rfl (by kernel_rfl) (by kernel_rfl) (by kernel_rfl) (fun _ _ _ h => h) (Or.inl ⟨by rfl, ?ha0⟩) hS0 ?ra0
      case ha0 => (intro wz hSw; have u9 := cellOf1 (hkeep1 hSw (lt_blk1 HCB.out) HCB.out); go_simp <;> with_reducible rfl)
      (try simp only [Act.put, List.setIfInBounds_toArray, List.set_cons_zero, List.set_cons_succ])
      refine wpAnyH_take (i := 1) (oi := ⟨some 29, Op.move (Operand.tmp 1), 32, _, _, none⟩) (v := ?va1) rfl (by kernel_rfl) (by kernel_rfl) (by kernel_rfl) (fun _ _ _ h => h) (Or.inl ⟨by rfl, ?ha1⟩) hS0 ?ra1
      case ha1 => (intro wz hSw; go_simp <;> with_reducible rfl)
      (try simp only [Act.put, List.setIfInBounds_toArray, List.set_cons_zero, List.set_cons_succ])
      refine wpAnyH_take (i := 2) (oi := ⟨some 30, Op.move (Operand.tmp 9), 3, _, _, none⟩) (v := ?va2) rfl (by kernel_rfl) (by kernel_rfl) (by kernel_rfl) (fun _ _ _ h => h) (Or.inl ⟨by rfl, ?ha2⟩) hS0 ?ra2
      case ha2 => (intro wz hSw; go_simp <;> with_reducible rfl)
      (try simp only [Act.put, List.setIfInBounds_toArray, List.set_cons_zero, List.set_cons_succ])
      refine wpAnyH_take (i := 3) (oi := ⟨some 31, Op.indexAddr 32 (Operand.tmp 29) (Operand.tmp 30), 0, _, _, none⟩) (v := ?va3) rfl (by kernel_rfl) (by kernel_rfl) (by kernel_rfl) (fun _ _ _ h => h) (Or.inl ⟨by rfl, ?ha3⟩) hS0 ?ra3
      case ha3 => (intro wz hSw; go_simp <;> with_reducible rfl)
      (try simp only [Act.put, List.setIfInBounds_toArray, List.set_cons_zero, List.set_cons_succ])
      refine wpAnyH_take (i := 4) (oi := ⟨some 32, Op.fieldAddr 42 (Operand.tmp 31) 0, 0, _, _, none⟩) (v := ?va4) rfl (by kernel_rfl) (by kernel_rfl) (by kernel_rfl) (fun _ _ _ h => h) (Or.inl ⟨by rfl, ?ha4⟩) hS0 ?ra4
      case ha4 => (intro wz hSw; go_simp <;> with_reducible rfl)
      (try simp only [Act.put, List.setIfInBounds_toArray, List.set_cons_zero, List.set_cons_succ])
      refine wpAnyH_take (i := 5) (oi := ⟨some 33, Op.load 3 (Operand.tmp 32), 3, _, _, none⟩) (v := ?va5) rfl (by kernel_rfl) (by kernel_rfl) (by kernel_rfl) (fun _ _ _ h => h) (Or.inl ⟨by rfl, ?ha5⟩) hS0 ?ra5
      case ha5 => (intro wz hSw; have u8 := HZ.out wz hSw; go_simp <;> with_reducible rfl)
      (try simp only [Act.put, List.setIfInBounds_toArray, List.set_cons_zero, List.set_cons_succ])
      refine wpAnyH_ready (rs := [6, 10]) (by kernel_rfl) (by simp) ?_
      refine AllReadyH.cons (o := ⟨some 34, Op.call { callee := Callee.value (Operand.func 33), args := #[Operand.tmp 28, Operand.tmp 33], argTypes := #[31, 3] }, 55, _, _, none⟩) rfl (fun K hK => ?_) (AllReadyH.cons (o := ⟨some 10, Op.alloc 54, 0, _, _, none⟩) rfl (fun K hK => ?_) AllReadyH.nil)
      · go_simp
        ((with_reducible refine (HC.out v0 hS0).mono ?_); rintro e v1 ⟨rfl, hBv⟩; have hS1 : Below wr.heap.size wr v1 := hS0.trans (hBv.mono hS0.size))
        refine hK.out _ _ hS1 (fun _ => ?_)
        clear hK K
        (try simp only [Act.put, List.setIfInBounds_toArray, List.set_cons_zero, List.set_cons_succ])
        refine wpAnyH_take (i := 7) (oi := ⟨some 27, Op.move (Operand.tmp 34), 55, _, _, none⟩) (v := ?vab67) rfl (by kernel_rfl) (by kernel_rfl) (by kernel_rfl) (fun _ _ _ h => h) (Or.inl ⟨by rfl, ?hab67⟩) hS1 ?rab67
        case hab67 => (intro wz hSw; go_simp <;> with_reducible rfl)
        (try simp only [Act.put, List.setIfInBounds_toArray, List.set_cons_zero, List.set_cons_succ])
        refine wpAnyH_take (i := 8) (oi := ⟨some 35, Op.extract (Operand.tmp 27) 0, 54, _, _, none⟩) (v := ?vab68) rfl (by kernel_rfl) (by kernel_rfl) (by kernel_rfl) (fun _ _ _ h => h) (Or.inl ⟨by rfl, ?hab68⟩) hS1 ?rab68
        case hab68 => (intro wz hSw; go_simp <;> with_reducible rfl)
        (try simp only [Act.put, List.setIfInBounds_toArray, List.set_cons_zero, List.set_cons_succ])
        refine wpAnyH_take (i := 9) (oi := ⟨some 36, Op.extract (Operand.tmp 27) 1, 4, _, _, none⟩) (v := ?vab69) rfl (by kernel_rfl) (by kernel_rfl) (by kernel_rfl) (fun _ _ _ h => h) (Or.inl ⟨by rfl, ?hab69⟩) hS1 ?rab69
        case hab69 => (intro wz hSw; go_simp <;> with_reducible rfl)
        (try simp only [Act.put, List.setIfInBounds_toArray, List.set_cons_zero, List.set_cons_succ])
        refine wpAnyH_ready (rs := [10]) (by kernel_rfl) (by simp) ?_
        refine AllReadyH.cons (o := ⟨some 10, Op.alloc 54, 0, _, _, none⟩) rfl (fun K hK => ?_) AllReadyH.nil
        go_simp
        have HP1 : Hid ((v1.alloc zcAu).heap[v1.heap.size]? = some zcAu) := Lib.hid (heap_alloc_new v1 zcAu); have hS2 : Below wr.heap.size wr (v1.alloc zcAu) := hS1.alloc hS1.size _
        refine hK.out _ _ hS2 (fun _ => ?_)
        clear hK K
        (try simp only [Act.put, List.setIfInBounds_toArray, List.set_cons_zero, List.set_cons_succ])
        refine wpAnyH_ready (rs := [11]) (by kernel_rfl) (by simp) ?_
        refine AllReadyH.cons (o := ⟨none, Op.store 54 (Operand.tmp 10) (Operand.tmp 35), 0, _, _, none⟩) rfl (fun K hK => ?_) AllReadyH.nil
        have z1 := cellOf1 HP1.out; have y1 := frozOf1 HP1.out; have l1 := lt_blk1 HP1.out
        go_simp
        have hS4 : Below wr.heap.size wr (v1.alloc (oAu a)) := hS1.alloc hS1.size _; have HP4 : Hid ((v1.alloc (oAu a)).heap[v1.heap.size]? = some (oAu a)) := Lib.hid (heap_alloc_new v1 (oAu a))
        refine hK.out _ _ hS4 (fun _ => ?_)
        clear hK K
        (try simp only [Act.put, List.setIfInBounds_toArray, List.set_cons_zero, List.set_cons_succ])
        refine wpAnyH_take (i := 12) (oi := ⟨some 11, Op.assign (Operand.tmp 36), 4, _, _, none⟩) (v := ?vab612) rfl (by kernel_rfl) (by kernel_rfl) (by kernel_rfl) (fun _ _ _ h => h) (Or.inl ⟨by rfl, ?hab612⟩) hS4 ?rab612
        case hab612 => (intro wz hSw; go_simp <;> with_reducible rfl)
        (try simp only [Act.put, List.setIfInBounds_toArray, List.set_cons_zero, List.set_cons_succ])
        refine wpAnyH_done (by kernel_rfl) ?_ _
        refine NoPanic.normal ?_
        have hp4 : wr.heap.size ≤ v1.heap.size := hS1.size
        have HV3 := Lib.hid hS4
        clear hS4 hBv
        generalize (v1.alloc (oAu a)) = v3 at HP4 HV3 ⊢
        generalize v1.heap.size = p at HP4 hp4 ⊢
        have hpl := lt_blk1 HP4.out
        clear hS0 hS1
        have q9 := cellOf1 HP4.out
        obtain ⟨d0, d1, d2, d3, d4, d5⟩ := HZa.out v3 HV3.out
        have hbv : b < v3.heap.size := Nat.lt_of_lt_of_le HBb.out HV3.out.size
        cases u with
        | false =>
          have HKy : Hid (kdP c.au 5 x = false) := Lib.hid (by rw [HKd.out]; rfl)
          clear HKd
          go_wp2
          go_roundg (l.length - (k + 1))
          case measure => omega
          case rel => exact ⟨k + 1, A1, c1, H, by omega, rfl, by go_num, rfl, Lib.hid (by rw [HH.out]; exact (sh_no HXk.out HKy.out).symm), Lib.hid (HOw.out.of HV3.out), Lib.hid (HW.out.trans (HV3.out.mono HW.out.size))⟩
        | true =>
          by_cases hk9 : a.kind = 5
          · have hk9' : (a.kind == 5) = true := by simpa using hk9
            have HKy : Hid (kdP c.au 5 x = true) := Lib.hid (by rw [HKd.out]; simpa using hk9)
            clear HKd hk9
            have HV2 : Hid (Below wr.heap.size wr (v3.alloc (.cells #[.int .i64 k, .int .i64 x.left] 76))) := Lib.hid (HV3.out.alloc HV3.out.size _)
            have HO2 := Lib.hid (HOw.out.of HV2.out)
            have HRW : Hid (RW sh (v3.alloc (.cells #[.int .i64 k, .int .i64 x.left] 76)) (v3.heap.size + 1) (some ⟨v3.heap.size, 0, none⟩) [⟨(k : Int), x.left⟩]) := Lib.hid (rw_at sh _ _ _ _ _ rfl rfl rfl)
            go_wp2_with (at_builtin; refine wpList_app sh rfl 73 rfl (.tmp 43) (.tmp 51) rfl V.heap.size (v3.heap.size + 1) (.slice A1 H.length c1) H [⟨(k : Int), x.left⟩] (some ⟨v3.heap.size, 0, none⟩) 1 1 rfl rfl rfl HO2.out HRW.out HHl.out (Nat.le_trans HW.out.size HV2.out.size) ?_; intro A3 c3 w3 lm HLM HO3 HS3 HB3)
            go_roundg (l.length - (k + 1))
            case measure => omega
            case rel => exact ⟨k + 1, A3, c3, lm, by omega, rfl, by go_num, rfl, Lib.hid (by rw [HLM.out, HH.out]; exact (sh_yes HXk.out HKy.out).symm), HO3, Lib.hid ((HW.out.trans (HV2.out.mono HW.out.size)).grown HS3.out (Nat.le_trans HW.out.size HV2.out.size) (fun j hj => (HO2.out.lt hj).1))⟩
          · have hk9' : (a.kind == 5) = false := by simpa using hk9
            have HKy : Hid (kdP c.au 5 x = false) := Lib.hid (by rw [HKd.out]; simpa using hk9)
            clear HKd hk9
            go_wp2
            go_roundg (l.length - (k + 1))
            case measure => omega
            case rel => exact ⟨k + 1, A1, c1, H, by omega, rfl, by go_num, rfl, Lib.hid (by rw [HH.out]; exact (sh_no HXk.out HKy.out).symm), Lib.hid (HOw.out.of HV3.out), Lib.hid (HW.out.trans (HV3.out.mono HW.out.size))⟩
      · go_simp
        have hSa : Below wr.heap.size wr (v0.alloc zcAu) := hS0.alloc hS0.size _
        refine hK.out _ _ hSa (fun _ => ?_)
        clear hK K
        (try simp only [Act.put, List.setIfInBounds_toArray, List.set_cons_zero, List.set_cons_succ])
        refine wpAnyH_ready (rs := [6]) (by kernel_rfl) (by simp) ?_
        refine AllReadyH.cons (o := ⟨some 34, Op.call { callee := Callee.value (Operand.func 33), args := #[Operand.tmp 28, Operand.tmp 33], argTypes := #[31, 3] }, 55, _, _, none⟩) rfl (fun K hK => ?_) AllReadyH.nil
        go_simp
        ((with_reducible refine (HC.out _ hSa).mono ?_); rintro e v1 ⟨rfl, hBv⟩; have hS1 : Below wr.heap.size wr v1 := hSa.trans (hBv.mono hSa.size); have HP1 : Hid (v1.heap[v0.heap.size]? = some zcAu) := Lib.hid (hkeep1 hBv (by simp) (heap_alloc_new v0 zcAu)))
        refine hK.out _ _ hS1 (fun _ => ?_)
        clear hK K
        (try simp only [Act.put, List.setIfInBounds_toArray, List.set_cons_zero, List.set_cons_succ])
        refine wpAnyH_take (i := 7) (oi := ⟨some 27, Op.move (Operand.tmp 34), 55, _, _, none⟩) (v := ?vab107) rfl (by kernel_rfl) (by kernel_rfl) (by kernel_rfl) (fun _ _ _ h => h) (Or.inl ⟨by rfl, ?hab107⟩) hS1 ?rab107
        case hab107 => (intro wz hSw; go_simp <;> with_reducible rfl)
        (try simp only [Act.put, List.setIfInBounds_toArray, List.set_cons_zero, List.set_cons_succ])
        refine wpAnyH_take (i := 8) (oi := ⟨some 35, Op.extract (Operand.tmp 27) 0, 54, _, _, none⟩) (v := ?vab108) rfl (by kernel_rfl) (by kernel_rfl) (by kernel_rfl) (fun _ _ _ h => h) (Or.inl ⟨by rfl, ?hab108⟩) hS1 ?rab108
        case hab108 => (intro wz hSw; go_simp <;> with_reducible rfl)
        (try simp only [Act.put, List.setIfInBounds_toArray, List.set_cons_zero, List.set_cons_succ])
        refine wpAnyH_take (i := 9) (oi := ⟨some 36, Op.extract (Operand.tmp 27) 1, 4, _, _, none⟩) (v := ?vab109) rfl (by kernel_rfl) (by kernel_rfl) (by kernel_rfl) (fun _ _ _ h => h) (Or.inl ⟨by rfl, ?hab109⟩) hS1 ?rab109
        case hab109 => (intro wz hSw; go_simp <;> with_reducible rfl)
        (try simp only [Act.put, List.setIfInBounds_toArray, List.set_cons_zero, List.set_cons_succ])
        refine wpAnyH_ready (rs := [11]) (by kernel_rfl) (by simp) ?_
        refine AllReadyH.cons (o := ⟨none, Op.store 54 (Operand.tmp 10) (Operand.tmp 35), 0, _, _, none⟩) rfl (fun K hK => ?_) AllReadyH.nil
        have z1 := cellOf1 HP1.out; have y1 := frozOf1 HP1.out; have l1 := lt_blk1 HP1.out
        go_simp
        have hS4 : Below wr.heap.size wr (((((((v1.setCell ⟨v0.heap.size, 0, none⟩ (.int .i64 a.id)).setCell ⟨v0.heap.size, 1, none⟩ (.int .i64 a.kind)).setCell ⟨v0.heap.size, 2, none⟩ (.int .i64 a.ticks)).setCell ⟨v0.heap.size, 3, none⟩ (.int .i64 a.every)).setCell ⟨v0.heap.size, 4, none⟩ (.int .i64 a.stacks)).setCell ⟨v0.heap.size, 5, none⟩ (.int .i64 a.amount)).setCell ⟨v0.heap.size, 6, none⟩ (.bool a.harm)) := below_setCells v0.heap.size hS0.size [.int .i64 a.id, .int .i64 a.kind, .int .i64 a.ticks, .int .i64 a.every, .int .i64 a.stacks, .int .i64 a.amount, .bool a.harm] 0 _ hS1; have HP4 : Hid ((((((((v1.setCell ⟨v0.heap.size, 0, none⟩ (.int .i64 a.id)).setCell ⟨v0.heap.size, 1, none⟩ (.int .i64 a.kind)).setCell ⟨v0.heap.size, 2, none⟩ (.int .i64 a.ticks)).setCell ⟨v0.heap.size, 3, none⟩ (.int .i64 a.every)).setCell ⟨v0.heap.size, 4, none⟩ (.int .i64 a.stacks)).setCell ⟨v0.heap.size, 5, none⟩ (.int .i64 a.amount)).setCell ⟨v0.heap.size, 6, none⟩ (.bool a.harm)).heap[v0.heap.size]? = some (oAu a)) := Lib.hid (put7 HP1.out _ _ _ _ _ _ _)
        refine hK.out _ _ hS4 (fun _ => ?_)
        clear hK K
        (try simp only [Act.put, List.setIfInBounds_toArray, List.set_cons_zero, List.set_cons_succ])
        refine wpAnyH_take (i := 12) (oi := ⟨some 11, Op.assign (Operand.tmp 36), 4, _, _, none⟩) (v := ?vab1012) rfl (by kernel_rfl) (by kernel_rfl) (by kernel_rfl) (fun _ _ _ h => h) (Or.inl ⟨by rfl, ?hab1012⟩) hS4 ?rab1012
        case hab1012 => (intro wz hSw; go_simp <;> with_reducible rfl)
        (try simp only [Act.put, List.setIfInBounds_toArray, List.set_cons_zero, List.set_cons_succ])
        refine wpAnyH_done (by kernel_rfl) ?_ _
        refine NoPanic.normal ?_
        have hp4 : wr.heap.size ≤ v0.heap.size := hS0.size
        have HV3 := Lib.hid hS4
        clear hS4 hBv
        generalize (((((((v1.setCell ⟨v0.heap.size, 0, none⟩ (.int .i64 a.id)).setCell ⟨v0.heap.size, 1, none⟩ (.int .i64 a.kind)).setCell ⟨v0.heap.size, 2, none⟩ (.int .i64 a.ticks)).setCell ⟨v0.heap.size, 3, none⟩ (.int .i64 a.every)).setCell ⟨v0.heap.size, 4, none⟩ (.int .i64 a.stacks)).setCell ⟨v0.heap.size, 5, none⟩ (.int .i64 a.amount)).setCell ⟨v0.heap.size, 6, none⟩ (.bool a.harm)) = v3 at HP4 HV3 ⊢
        generalize v0.heap.size = p at HP4 hp4 ⊢
        have hpl := lt_blk1 HP4.out
        clear hS0 hS1
        have q9 := cellOf1 HP4.out
        obtain ⟨d0, d1, d2, d3, d4, d5⟩ := HZa.out v3 HV3.out
        have hbv : b < v3.heap.size := Nat.lt_of_lt_of_le HBb.out HV3.out.size
        cases u with
        | false =>
          have HKy : Hid (kdP c.au 5 x = false) := Lib.hid (by rw [HKd.out]; rfl)
          clear HKd
          go_wp2
          go_roundg (l.length - (k + 1))
          case measure => omega
          case rel => exact ⟨k + 1, A1, c1, H, by omega, rfl, by go_num, rfl, Lib.hid (by rw [HH.out]; exact (sh_no HXk.out HKy.out).symm), Lib.hid (HOw.out.of HV3.out), Lib.hid (HW.out.trans (HV3.out.mono HW.out.size))⟩
        | true =>
          by_cases hk9 : a.kind = 5
          · have hk9' : (a.kind == 5) = true := by simpa using hk9
            have HKy : Hid (kdP c.au 5 x = true) := Lib.hid (by rw [HKd.out]; simpa using hk9)
            clear HKd hk9
            have HV2 : Hid (Below wr.heap.size wr (v3.alloc (.cells #[.int .i64 k, .int .i64 x.left] 76))) := Lib.hid (HV3.out.alloc HV3.out.size _)
            have HO2 := Lib.hid (HOw.out.of HV2.out)
            have HRW : Hid (RW sh (v3.alloc (.cells #[.int .i64 k, .int .i64 x.left] 76)) (v3.heap.size + 1) (some ⟨v3.heap.size, 0, none⟩) [⟨(k : Int), x.left⟩]) := Lib.hid (rw_at sh _ _ _ _ _ rfl rfl rfl)
            go_wp2_with (at_builtin; refine wpList_app sh rfl 73 rfl (.tmp 43) (.tmp 51) rfl V.heap.size (v3.heap.size + 1) (.slice A1 H.length c1) H [⟨(k : Int), x.left⟩] (some ⟨v3.heap.size, 0, none⟩) 1 1 rfl rfl rfl HO2.out HRW.out HHl.out (Nat.le_trans HW.out.size HV2.out.size) ?_; intro A3 c3 w3 lm HLM HO3 HS3 HB3)
            go_roundg (l.length - (k + 1))
            case measure => omega
            case rel => exact ⟨k + 1, A3, c3, lm, by omega, rfl, by go_num, rfl, Lib.hid (by rw [HLM.out, HH.out]; exact (sh_yes HXk.out HKy.out).symm), HO3, Lib.hid ((HW.out.trans (HV2.out.mono HW.out.size)).grown HS3.out (Nat.le_trans HW.out.size HV2.out.size) (fun j hj => (HO2.out.lt hj).1))⟩
          · have hk9' : (a.kind == 5) = false := by simpa using hk9
            have HKy : Hid (kdP c.au 5 x = false) := Lib.hid (by rw [HKd.out]; simpa using hk9)
            clear HKd hk9
            go_wp2
            go_roundg (l.length - (k + 1))
            case measure => omega
            case rel => exact ⟨k + 1, A1, c1, H, by omega, rfl, by go_num, rfl, Lib.hid (by rw [HH.out]; exact (sh_no HXk.out HKy.out).symm), Lib.hid (HOw.out.of HV3.out), Lib.hid (HW.out.trans (HV3.out.mono HW.out.size))⟩
    · have hlt' : decide ((k : Int) < l.length) = false := by simp; omega
      have hkn : k = l.length := by omega
      subst hkn
      have e1 := HH.out
      subst e1
      have HTk := Lib.hid (rtake_any A1 c1 (shK c.au l l.length) _ wr.heap.size m0 wr rfl (HOw.out.pw.rw') HFs.out (Nat.le_refl _) (by have := sh_le c.au l l.length; omega) hm)
      have HL9 : Hid (S.length ≤ 1000000 ∧ G.length ≤ 1000000) := Lib.hid (by have h9 := take_len (shK c.au l l.length) m0; rw [HT.out] at h9; have := sh_le c.au l l.length; simp only at h9; omega)
      clear hk
      generalize shK c.au l l.length = H at *
      go_wp2_with (first
        | ((with_reducible refine HTk.out.mono ?_); rintro e w1 ⟨A4, c4, S1, m1, A5, c5, G1, rfl, hT1, hTw⟩; have hT2 := hT1.out; rw [HT.out] at hT2; injection hT2 with q1 q2; injection q2 with q2 q3; subst q1; subst q2; subst q3; have HTw := Lib.hid hTw.out; have HVw1 : Hid (Below V.heap.size V w1) := Lib.hid (HW.out.trans (HTw.out.below.mono HW.out.size)); clear hT1 hTw))
      have HSr := Lib.hid HTw.out.a.pw.rw'
      have HGr := Lib.hid HTw.out.b.pw.rw'
      have HR2 := Lib.hid (HR.out.below HVw1.out HB.out)
      have HB2 := Lib.hid (Nat.le_trans HB.out HVw1.out.size)
      clear HTk HTw HOw
      go_loopg [15, 16] l.length (fun gh s15 s16 wr => ∃ (k : Nat) (A3 : Option Addr) (c3 : Nat) (O : List Ac), k ≤ l.length ∧ gh = l.length - k ∧ s16 = .int .i64 k ∧ s15 = .slice A3 O.length c3 ∧ Hid (O = taK S G l k) ∧ Hid (OW ac wr w1.heap.size (.slice A3 O.length c3) O) ∧ Hid (Below w1.heap.size w1 wr))
      case atStart => exact ⟨0, none, 0, [], by omega, rfl, rfl, rfl, Lib.hid rfl, Lib.hid (OW.nil ac w1 w1.heap.size), Lib.hid (Below.refl _ _)⟩
      case round =>
        obtain ⟨k, A3, c3, O, hk, rfl, rfl, rfl, HO, HOw, HW2⟩ := hrel
        by_cases hlt : k < l.length
        · obtain ⟨x, hx⟩ : ∃ x, l[k]? = some x := ⟨_, List.getElem?_eq_getElem hlt⟩
          obtain ⟨b, off, hAA, hpl, d0, d1, d2, d3, d4, d5⟩ := rowAc HR2.out hx HW2.out HB2.out
          subst hAA
          have hlt' : (k : Int) < l.length := by omega
          have HXk := Lib.hid hx
          have HOl : Hid (O.length ≤ k) := Lib.hid (by rw [HO.out]; exact ta_le _)
          clear hx
          go_wp2
          obtain ⟨W1, hW1⟩ : ∃ W1, W1 = wr := ⟨_, rfl⟩
          subst hW1
          clear d0 d1 d2 d3 d4 d5 hpl
          go_loopg [19] S.length (fun gh s19 wr => ∃ (j : Nat) (v : Int), j ≤ S.length ∧ gh = S.length - j ∧ s19 = .int .i64 j ∧ Hid (v = lfI k (S.take j) x.left) ∧ Hid (Below W1.heap.size W1 wr) ∧ Hid (wr.heap[W1.heap.size]? = some (oAc (withL x v))))
          case atStart => exact ⟨0, x.left, by omega, rfl, rfl, Lib.hid rfl, Lib.hid (below_box W1 (oAc x)), Lib.hid (heap_alloc_new W1 (oAc x))⟩
          case round =>
            obtain ⟨j, v, hj, rfl, rfl, HV, HWj, HBx⟩ := hrel
            have HWa : Hid (Below w1.heap.size w1 wr) := Lib.hid (HW2.out.trans (HWj.out.mono HW2.out.size))
            have hl9 := HL9.out.1
            by_cases hjl : j < S.length
            · obtain ⟨s, hs⟩ : ∃ s, S[j]? = some s := ⟨_, List.getElem?_eq_getElem hjl⟩
              obtain ⟨p, off', hA4, hpl, hc⟩ := (HSr.out.below HWa.out (Nat.le_refl _)).at' hs
              subst hA4
              obtain ⟨f0, f1⟩ := cellsSh (o := off' + j * 2) hc
              have hjl' : (j : Int) < S.length := by omega
              have q9 := cellOf1 HBx.out; have y9 := frozOf1 HBx.out; have l9 := lt_blk1 HBx.out
              have hpw : p < wr.heap.size := by have := HWa.out.size; omega
              have HSj := Lib.hid hs
              clear hc hs
              by_cases hsk : s.aura = (k : Int)
              · have hsk' : (s.aura == (k : Int)) = true := by simpa using hsk
                have HVn : Hid (s.left = lfI k (S.take (j + 1)) x.left) := Lib.hid (lf_yes HSj.out hsk x.left).symm
                clear hsk
                go_wp2
                go_roundg (S.length - (j + 1))
                case measure => omega
                case rel => exact ⟨j + 1, s.left, by omega, rfl, by go_num, HVn, Lib.hid (HWj.out.setCell (p := ⟨W1.heap.size, 5, none⟩) (Nat.le_refl _) _), Lib.hid (box_left HBx.out s.left)⟩
              · have hsk' : (s.aura == (k : Int)) = false := by simpa using hsk
                have HVn : Hid (v = lfI k (S.take (j + 1)) x.left) := Lib.hid (by rw [lf_no HSj.out hsk]; exact HV.out)
                clear hsk
                go_wp2
                go_roundg (S.length - (j + 1))
                case measure => omega
                case rel => exact ⟨j + 1, v, by omega, rfl, by go_num, HVn, HWj, HBx⟩
            · have hjl' : decide ((j : Int) < S.length) = false := by simp; omega
              have HVe : Hid (v = lfI k S x.left) := Lib.hid (by rw [HV.out, lf_done (by omega)])
              go_wp2
              obtain ⟨W2, hW2⟩ : ∃ W2, W2 = wr := ⟨_, rfl⟩
              subst hW2
              go_loopg [18, 20] G.length (fun gh s18 s20 wr => ∃ (i : Nat) (lo : Bool), i ≤ G.length ∧ gh = G.length - i ∧ s20 = .int .i64 i ∧ s18 = .bool lo ∧ Hid (lo = decide ((k : Int) ∈ G.take i)) ∧ Hid (W2 = wr))
              case atStart => exact ⟨0, false, by omega, rfl, rfl, rfl, Lib.hid (by simp), Lib.hid rfl⟩
              case round =>
                obtain ⟨i, lo, hi, rfl, rfl, rfl, HLo, HWe⟩ := hrel
                have hwe := HWe.out
                subst hwe
                have hg9 := HL9.out.2
                by_cases hil : i < G.length
                · obtain ⟨g, hg⟩ : ∃ g, G[i]? = some g := ⟨_, List.getElem?_eq_getElem hil⟩
                  obtain ⟨p, off', hA5, hpl, hc⟩ := (HGr.out.below HWa.out (Nat.le_refl _)).at' hg
                  subst hA5
                  have f0 : W2.cell? ⟨p, off' + i * 1, none⟩ = some (.int .i64 g) := cellsNu (o := off' + i * 1) hc
                  rw [Nat.mul_one] at f0
                  have hil' : (i : Int) < G.length := by omega
                  have HLn := Lib.hid (lost_next hg (k : Int))
                  rw [← HLo.out] at HLn
                  clear hc hg
                  cases lo with
                  | true =>
                    go_wp2
                    go_roundg (G.length - (i + 1))
                    case measure => omega
                    case rel => exact ⟨i + 1, true, by omega, rfl, by go_num, rfl, Lib.hid (by rw [HLn.out]; rfl), Lib.hid rfl⟩
                  | false =>
                    obtain ⟨y, hy⟩ : ∃ y, (g == (k : Int)) = y := ⟨_, rfl⟩
                    rw [hy] at HLn
                    go_wp2
                    go_roundg (G.length - (i + 1))
                    case measure => omega
                    case rel => exact ⟨i + 1, y, by omega, rfl, by go_num, rfl, Lib.hid (by rw [HLn.out]; simp), Lib.hid rfl⟩
                · have hil' : decide ((i : Int) < G.length) = false := by simp; omega
                  have HLe : Hid (lo = decide ((k : Int) ∈ G)) := Lib.hid (by rw [HLo.out, List.take_of_length_le (by omega)])
                  have q9 := cellOf1 HBx.out; have l9 := lt_blk1 HBx.out
                  clear HLo
                  cases lo with
                  | true =>
                    have HGn : Hid ((k : Int) ∈ G) := Lib.hid (by have := HLe.out; simpa using this.symm)
                    go_wp2
                    go_roundg (l.length - (k + 1))
                    case measure => omega
                    case rel => exact ⟨k + 1, A3, c3, O, by omega, rfl, by go_num, rfl, Lib.hid (by rw [HO.out]; exact (ta_gone HGn.out).symm), Lib.hid (HOw.out.of HWj.out), HWa⟩
                  | false =>
                    have HGn : Hid (¬ (k : Int) ∈ G) := Lib.hid (by have := HLe.out; simpa using this.symm)
                    have HO2 := Lib.hid ((HOw.out.of HWj.out).of (below_box W2 (oAc (withL x v))))
                    have HRW : Hid (RW ac (W2.alloc (oAc (withL x v))) (W2.heap.size + 1) (some ⟨W2.heap.size, 0, none⟩) [withL x v]) := Lib.hid (rw_at ac _ _ _ _ _ rfl rfl rfl)
                    have HOl2 : Hid (O.length + [withL x v].length ≤ 1000000) := Lib.hid (by have := HOl.out; simp; omega)
                    go_wp2_with (at_builtin; refine wpList_app ac rfl 32 rfl (.tmp 106) (.tmp 108) rfl w1.heap.size (W2.heap.size + 1) (.slice A3 O.length c3) O [withL x v] (some ⟨W2.heap.size, 0, none⟩) 1 1 rfl rfl rfl HO2.out HRW.out HOl2.out (Nat.le_trans HWa.out.size (by simp)) ?_; intro A6 c6 w6 lm HLM HO6 HS6 HB6)
                    go_roundg (l.length - (k + 1))
                    case measure => omega
                    case rel => exact ⟨k + 1, A6, c6, lm, by omega, rfl, by go_num, rfl, Lib.hid (by rw [HLM.out, HO.out, ta_stay HXk.out HGn.out, HVe.out]), HO6, Lib.hid ((HWa.out.alloc HWa.out.size _).grown HS6.out (Nat.le_trans HWa.out.size (by simp)) (fun j hj => (HO2.out.lt hj).1))⟩
        · have hlt' : decide ((k : Int) < l.length) = false := by simp; omega
          have hkn : k = l.length := by omega
          subst hkn
          go_wp2
          go_ret2
          have e1 := HO.out
          subst e1
          have hfin : Below w.heap.size w w1 := HX.out.trans (HVw1.out.mono HX.out.size)
          exact ⟨A3, c3, rfl, Lib.hid (HOw.out.mono hfin.size), hfin.trans (HW2.out.mono hfin.size)⟩
end Go.Proofs.Ytijobbdgiaiocaa.Con
