/-
  Contracts of the document's own Has.
-/
import Derived.Test.YtijobbdgiaiocaaAul
import Derived.Test.YtijobbdgiaiocaaPga
import Derived.Deep.RegionHeld3
namespace Go.Proofs.Ytijobbdgiaiocaa.Con
open Go.RowKit Go.Maps

theorem put7 {w : World} {P : Nat} {u0 u1 u2 u3 u4 u5 u6 : Value} {t : TypeId} (h : w.heap[P]? = some (.cells #[u0, u1, u2, u3, u4, u5, u6] t (0, 0))) (v0 v1 v2 v3 v4 v5 v6 : Value) :
    (w.setCells P 0 [v0, v1, v2, v3, v4, v5, v6]).heap[P]? = some (.cells #[v0, v1, v2, v3, v4, v5, v6] t (0, 0)) := by
  simp [World.setCells, World.setCell, Array.getElem?_modify, h]
set_option maxRecDepth 20000 in
set_option maxHeartbeats 400000 in
theorem rhas_any {w : World} {B : Nat} {c : Cn} {A : Option Addr} {l : List Ac} {n cp : Nat} (kind : Int) (hA : RuC c w) (hn : l.length = n) (hl : (n : Int) ≤ 1000000) (hr : RW ac w B A l) (hB : B ≤ w.heap.size) :
    Calls Try.prog 25 #[cnv c, .slice A n cp, .int .i64 kind] w fun e w' => e = .returned (.bool (l.any (kdP c.au kind))) ∧ Below w.heap.size w w' := by
  subst hn
  have hb := below_box w (oCn c)
  have HX := Lib.hid hb; have HA := Lib.hid (hA.of hb); have HN := Lib.hid (heap_alloc_new w (oCn c)); have HR := Lib.hid (hr.below hb hB)
  have HB := Lib.hid (Nat.le_trans hB hb.size); have HLT : Hid (w.heap.size < (w.alloc (oCn c)).heap.size) := Lib.hid (by simp)
  obtain ⟨ans, hans⟩ : ∃ ans, l.any (kdP c.au kind) = ans := ⟨_, rfl⟩
  have HAns := Lib.hid hans
  rw [hans]
  clear hA hr hB hb hans
  go_enter Try.func25, Try.ntmps25
  go_wp2
  generalize w.alloc (oCn c) = V at *
  go_loopg [7] l.length (fun gh s7 wr => ∃ (k : Nat), k ≤ l.length ∧ gh = l.length - k ∧ s7 = .int .i64 k ∧ Hid (∀ y ∈ l.take k, kdP c.au kind y = false) ∧ Hid (Below V.heap.size V wr))
  case atStart => exact ⟨0, by omega, rfl, rfl, Lib.hid (by simp), Lib.hid (Below.refl _ _)⟩
  case round =>
    obtain ⟨k, hk, rfl, rfl, HF, HW⟩ := hrel
    by_cases hlt : k < l.length
    · obtain ⟨x, hx⟩ : ∃ x, l[k]? = some x := ⟨_, List.getElem?_eq_getElem hlt⟩
      obtain ⟨b, off, hAA, hpl, d0, d1, d2, d3, d4, d5⟩ := rowAc HR.out hx HW.out HB.out
      subst hAA
      have hlt' : (k : Int) < l.length := by omega
      have HXk := Lib.hid hx
      have HCB : Hid (wr.heap[w.heap.size]? = some (oCn c)) := Lib.hid (hkeep1 HW.out HLT.out HN.out)
      have HZ : Hid (∀ wz, Below wr.heap.size wr wz → wz.cell? ⟨b, off + k * 6, none⟩ = some (.int .i64 x.aura)) := Lib.hid (fun wz hz => (hz.cell (p := ⟨b, off + k * 6, none⟩) (by have := HW.out.size; have := HB.out; show b < wr.heap.size; omega)).trans d0)
      have HC := Lib.hid (fun U (hU : Below wr.heap.size wr U) => HA.out U (HW.out.trans (hU.mono HW.out.size)) x.aura)
      obtain ⟨a, ha⟩ : ∃ a, lkA c.au x.aura = a := ⟨_, rfl⟩
      obtain ⟨u, hu⟩ : ∃ u, lkB c.au x.aura = u := ⟨_, rfl⟩
      rw [ha, hu] at HC
      have HKd : Hid (kdP c.au kind x = (u && decide (a.kind = kind))) := Lib.hid (by unfold kdP; rw [ha, hu])
      clear hx ha hu d0 d1 d2 d3 d4 d5
      go_wp2
      refine wp_region_noPanic ?_
      refine wp_region_held_drew (S := fun w' => Below wr.heap.size wr w') (by kernel_rfl) ((Below.refl _ _).drew) (fun hS0 => ?_)
      generalize wr.drew = v0 at hS0 ⊢
      refine wpAnyH_take (i := 0) (oi := ⟨some 17, Op.load 31 (Operand.tmp 3), 31, _, _, none⟩) (v := ?va0) rfl (by kernel_rfl) (by kernel_rfl) (by kernel_rfl) (fun _ _ _ h => h) (Or.inl ⟨by rfl, ?ha0⟩) hS0 ?ra0
      case ha0 => (intro wz hSw; have u9 := cellOf1 (hkeep1 hSw (lt_blk1 HCB.out) HCB.out); go_simp <;> with_reducible rfl)
      (try simp only [Act.put, List.setIfInBounds_toArray, List.set_cons_zero, List.set_cons_succ])
      refine wpAnyH_take (i := 1) (oi := ⟨some 18, Op.move (Operand.tmp 1), 32, _, _, none⟩) (v := ?va1) rfl (by kernel_rfl) (by kernel_rfl) (by kernel_rfl) (fun _ _ _ h => h) (Or.inl ⟨by rfl, ?ha1⟩) hS0 ?ra1
      case ha1 => (intro wz hSw; go_simp <;> with_reducible rfl)
      (try simp only [Act.put, List.setIfInBounds_toArray, List.set_cons_zero, List.set_cons_succ])
      refine wpAnyH_take (i := 2) (oi := ⟨some 19, Op.move (Operand.tmp 7), 3, _, _, none⟩) (v := ?va2) rfl (by kernel_rfl) (by kernel_rfl) (by kernel_rfl) (fun _ _ _ h => h) (Or.inl ⟨by rfl, ?ha2⟩) hS0 ?ra2
      case ha2 => (intro wz hSw; go_simp <;> with_reducible rfl)
      (try simp only [Act.put, List.setIfInBounds_toArray, List.set_cons_zero, List.set_cons_succ])
      refine wpAnyH_take (i := 3) (oi := ⟨some 20, Op.indexAddr 32 (Operand.tmp 18) (Operand.tmp 19), 0, _, _, none⟩) (v := ?va3) rfl (by kernel_rfl) (by kernel_rfl) (by kernel_rfl) (fun _ _ _ h => h) (Or.inl ⟨by rfl, ?ha3⟩) hS0 ?ra3
      case ha3 => (intro wz hSw; go_simp <;> with_reducible rfl)
      (try simp only [Act.put, List.setIfInBounds_toArray, List.set_cons_zero, List.set_cons_succ])
      refine wpAnyH_take (i := 4) (oi := ⟨some 21, Op.fieldAddr 42 (Operand.tmp 20) 0, 0, _, _, none⟩) (v := ?va4) rfl (by kernel_rfl) (by kernel_rfl) (by kernel_rfl) (fun _ _ _ h => h) (Or.inl ⟨by rfl, ?ha4⟩) hS0 ?ra4
      case ha4 => (intro wz hSw; go_simp <;> with_reducible rfl)
      (try simp only [Act.put, List.setIfInBounds_toArray, List.set_cons_zero, List.set_cons_succ])
      refine wpAnyH_take (i := 5) (oi := ⟨some 22, Op.load 3 (Operand.tmp 21), 3, _, _, none⟩) (v := ?va5) rfl (by kernel_rfl) (by kernel_rfl) (by kernel_rfl) (fun _ _ _ h => h) (Or.inl ⟨by rfl, ?ha5⟩) hS0 ?ra5
      case ha5 => (intro wz hSw; have u8 := HZ.out wz hSw; go_simp <;> with_reducible rfl)
      (try simp only [Act.put, List.setIfInBounds_toArray, List.set_cons_zero, List.set_cons_succ])
      refine wpAnyH_ready (rs := [6, 10]) (by kernel_rfl) (by simp) ?_
      refine AllReadyH.cons (o := ⟨some 23, Op.call { callee := Callee.value (Operand.func 33), args := #[Operand.tmp 17, Operand.tmp 22], argTypes := #[31, 3] }, 55, _, _, none⟩) rfl (fun K hK => ?_) (AllReadyH.cons (o := ⟨some 8, Op.alloc 54, 0, _, _, none⟩) rfl (fun K hK => ?_) AllReadyH.nil)
      · go_simp
        ((with_reducible refine (HC.out v0 hS0).mono ?_); rintro e v1 ⟨rfl, hBv⟩; have hS1 : Below wr.heap.size wr v1 := hS0.trans (hBv.mono hS0.size))
        refine hK.out _ _ hS1 (fun _ => ?_)
        clear hK K
        (try simp only [Act.put, List.setIfInBounds_toArray, List.set_cons_zero, List.set_cons_succ])
        refine wpAnyH_take (i := 7) (oi := ⟨some 16, Op.move (Operand.tmp 23), 55, _, _, none⟩) (v := ?vab67) rfl (by kernel_rfl) (by kernel_rfl) (by kernel_rfl) (fun _ _ _ h => h) (Or.inl ⟨by rfl, ?hab67⟩) hS1 ?rab67
        case hab67 => (intro wz hSw; go_simp <;> with_reducible rfl)
        (try simp only [Act.put, List.setIfInBounds_toArray, List.set_cons_zero, List.set_cons_succ])
        refine wpAnyH_take (i := 8) (oi := ⟨some 24, Op.extract (Operand.tmp 16) 0, 54, _, _, none⟩) (v := ?vab68) rfl (by kernel_rfl) (by kernel_rfl) (by kernel_rfl) (fun _ _ _ h => h) (Or.inl ⟨by rfl, ?hab68⟩) hS1 ?rab68
        case hab68 => (intro wz hSw; go_simp <;> with_reducible rfl)
        (try simp only [Act.put, List.setIfInBounds_toArray, List.set_cons_zero, List.set_cons_succ])
        refine wpAnyH_take (i := 9) (oi := ⟨some 25, Op.extract (Operand.tmp 16) 1, 4, _, _, none⟩) (v := ?vab69) rfl (by kernel_rfl) (by kernel_rfl) (by kernel_rfl) (fun _ _ _ h => h) (Or.inl ⟨by rfl, ?hab69⟩) hS1 ?rab69
        case hab69 => (intro wz hSw; go_simp <;> with_reducible rfl)
        (try simp only [Act.put, List.setIfInBounds_toArray, List.set_cons_zero, List.set_cons_succ])
        refine wpAnyH_ready (rs := [10]) (by kernel_rfl) (by simp) ?_
        refine AllReadyH.cons (o := ⟨some 8, Op.alloc 54, 0, _, _, none⟩) rfl (fun K hK => ?_) AllReadyH.nil
        go_simp
        have HP1 : Hid ((v1.alloc zcAu).heap[v1.heap.size]? = some zcAu) := Lib.hid (heap_alloc_new v1 zcAu); have hS2 : Below wr.heap.size wr (v1.alloc zcAu) := hS1.alloc hS1.size _
        refine hK.out _ _ hS2 (fun _ => ?_)
        clear hK K
        (try simp only [Act.put, List.setIfInBounds_toArray, List.set_cons_zero, List.set_cons_succ])
        refine wpAnyH_ready (rs := [11]) (by kernel_rfl) (by simp) ?_
        refine AllReadyH.cons (o := ⟨none, Op.store 54 (Operand.tmp 8) (Operand.tmp 24), 0, _, _, none⟩) rfl (fun K hK => ?_) AllReadyH.nil
        have z1 := cellOf1 HP1.out; have y1 := frozOf1 HP1.out; have l1 := lt_blk1 HP1.out
        go_simp
        have hS4 : Below wr.heap.size wr (v1.alloc (oAu a)) := hS1.alloc hS1.size _; have HP4 : Hid ((v1.alloc (oAu a)).heap[v1.heap.size]? = some (oAu a)) := Lib.hid (heap_alloc_new v1 (oAu a))
        refine hK.out _ _ hS4 (fun _ => ?_)
        clear hK K
        (try simp only [Act.put, List.setIfInBounds_toArray, List.set_cons_zero, List.set_cons_succ])
        refine wpAnyH_take (i := 12) (oi := ⟨some 9, Op.assign (Operand.tmp 25), 4, _, _, none⟩) (v := ?vab612) rfl (by kernel_rfl) (by kernel_rfl) (by kernel_rfl) (fun _ _ _ h => h) (Or.inl ⟨by rfl, ?hab612⟩) hS4 ?rab612
        case hab612 => (intro wz hSw; go_simp <;> with_reducible rfl)
        (try simp only [Act.put, List.setIfInBounds_toArray, List.set_cons_zero, List.set_cons_succ])
        refine wpAnyH_done (by kernel_rfl) ?_ _
        refine NoPanic.normal ?_
        have hp4 : wr.heap.size ≤ v1.heap.size := hS1.size
        have HV3 := Lib.hid hS4
        clear hS4 hBv
        generalize (v1.alloc (oAu a)) = v3 at HP4 HV3 ⊢
        generalize v1.heap.size = p at HP4 hp4 ⊢
        have hpl := lt_blk1 HP4.out
        clear hS0 hS1
        have q9 := cellOf1 HP4.out
        cases u with
        | false =>
          have HKy : Hid (kdP c.au kind x = false) := Lib.hid (by rw [HKd.out]; rfl)
          clear HKd
          go_wp2
          go_roundg (l.length - (k + 1))
          case measure => omega
          case rel => exact ⟨k + 1, by omega, rfl, by go_num, Lib.hid (take_no HXk.out HKy.out HF.out), Lib.hid (HW.out.trans (HV3.out.mono HW.out.size))⟩
        | true =>
          by_cases hk9 : a.kind = kind
          · have hk9' : (a.kind == kind) = true := by simpa using hk9
            have HKy : Hid (kdP c.au kind x = true) := Lib.hid (by rw [HKd.out]; simpa using hk9)
            clear HKd hk9
            go_wp2
            go_ret
            exact ⟨ret_bool (by rw [← HAns.out]; exact (List.any_eq_true.2 ⟨x, List.mem_of_getElem? HXk.out, HKy.out⟩).symm), HX.out.trans ((HW.out.trans (HV3.out.mono HW.out.size)).mono HX.out.size)⟩
          · have hk9' : (a.kind == kind) = false := by simpa using hk9
            have HKy : Hid (kdP c.au kind x = false) := Lib.hid (by rw [HKd.out]; simpa using hk9)
            clear HKd hk9
            go_wp2
            go_roundg (l.length - (k + 1))
            case measure => omega
            case rel => exact ⟨k + 1, by omega, rfl, by go_num, Lib.hid (take_no HXk.out HKy.out HF.out), Lib.hid (HW.out.trans (HV3.out.mono HW.out.size))⟩
      · go_simp
        have hSa : Below wr.heap.size wr (v0.alloc zcAu) := hS0.alloc hS0.size _
        refine hK.out _ _ hSa (fun _ => ?_)
        clear hK K
        (try simp only [Act.put, List.setIfInBounds_toArray, List.set_cons_zero, List.set_cons_succ])
        refine wpAnyH_ready (rs := [6]) (by kernel_rfl) (by simp) ?_
        refine AllReadyH.cons (o := ⟨some 23, Op.call { callee := Callee.value (Operand.func 33), args := #[Operand.tmp 17, Operand.tmp 22], argTypes := #[31, 3] }, 55, _, _, none⟩) rfl (fun K hK => ?_) AllReadyH.nil
        go_simp
        ((with_reducible refine (HC.out _ hSa).mono ?_); rintro e v1 ⟨rfl, hBv⟩; have hS1 : Below wr.heap.size wr v1 := hSa.trans (hBv.mono hSa.size); have HP1 : Hid (v1.heap[v0.heap.size]? = some zcAu) := Lib.hid (hkeep1 hBv (by simp) (heap_alloc_new v0 zcAu)))
        refine hK.out _ _ hS1 (fun _ => ?_)
        clear hK K
        (try simp only [Act.put, List.setIfInBounds_toArray, List.set_cons_zero, List.set_cons_succ])
        refine wpAnyH_take (i := 7) (oi := ⟨some 16, Op.move (Operand.tmp 23), 55, _, _, none⟩) (v := ?vab107) rfl (by kernel_rfl) (by kernel_rfl) (by kernel_rfl) (fun _ _ _ h => h) (Or.inl ⟨by rfl, ?hab107⟩) hS1 ?rab107
        case hab107 => (intro wz hSw; go_simp <;> with_reducible rfl)
        (try simp only [Act.put, List.setIfInBounds_toArray, List.set_cons_zero, List.set_cons_succ])
        refine wpAnyH_take (i := 8) (oi := ⟨some 24, Op.extract (Operand.tmp 16) 0, 54, _, _, none⟩) (v := ?vab108) rfl (by kernel_rfl) (by kernel_rfl) (by kernel_rfl) (fun _ _ _ h => h) (Or.inl ⟨by rfl, ?hab108⟩) hS1 ?rab108
        case hab108 => (intro wz hSw; go_simp <;> with_reducible rfl)
        (try simp only [Act.put, List.setIfInBounds_toArray, List.set_cons_zero, List.set_cons_succ])
        refine wpAnyH_take (i := 9) (oi := ⟨some 25, Op.extract (Operand.tmp 16) 1, 4, _, _, none⟩) (v := ?vab109) rfl (by kernel_rfl) (by kernel_rfl) (by kernel_rfl) (fun _ _ _ h => h) (Or.inl ⟨by rfl, ?hab109⟩) hS1 ?rab109
        case hab109 => (intro wz hSw; go_simp <;> with_reducible rfl)
        (try simp only [Act.put, List.setIfInBounds_toArray, List.set_cons_zero, List.set_cons_succ])
        refine wpAnyH_ready (rs := [11]) (by kernel_rfl) (by simp) ?_
        refine AllReadyH.cons (o := ⟨none, Op.store 54 (Operand.tmp 8) (Operand.tmp 24), 0, _, _, none⟩) rfl (fun K hK => ?_) AllReadyH.nil
        have z1 := cellOf1 HP1.out; have y1 := frozOf1 HP1.out; have l1 := lt_blk1 HP1.out
        go_simp
        have hS4 : Below wr.heap.size wr (((((((v1.setCell ⟨v0.heap.size, 0, none⟩ (.int .i64 a.id)).setCell ⟨v0.heap.size, 1, none⟩ (.int .i64 a.kind)).setCell ⟨v0.heap.size, 2, none⟩ (.int .i64 a.ticks)).setCell ⟨v0.heap.size, 3, none⟩ (.int .i64 a.every)).setCell ⟨v0.heap.size, 4, none⟩ (.int .i64 a.stacks)).setCell ⟨v0.heap.size, 5, none⟩ (.int .i64 a.amount)).setCell ⟨v0.heap.size, 6, none⟩ (.bool a.harm)) := below_setCells v0.heap.size hS0.size [.int .i64 a.id, .int .i64 a.kind, .int .i64 a.ticks, .int .i64 a.every, .int .i64 a.stacks, .int .i64 a.amount, .bool a.harm] 0 _ hS1; have HP4 : Hid ((((((((v1.setCell ⟨v0.heap.size, 0, none⟩ (.int .i64 a.id)).setCell ⟨v0.heap.size, 1, none⟩ (.int .i64 a.kind)).setCell ⟨v0.heap.size, 2, none⟩ (.int .i64 a.ticks)).setCell ⟨v0.heap.size, 3, none⟩ (.int .i64 a.every)).setCell ⟨v0.heap.size, 4, none⟩ (.int .i64 a.stacks)).setCell ⟨v0.heap.size, 5, none⟩ (.int .i64 a.amount)).setCell ⟨v0.heap.size, 6, none⟩ (.bool a.harm)).heap[v0.heap.size]? = some (oAu a)) := Lib.hid (put7 HP1.out _ _ _ _ _ _ _)
        refine hK.out _ _ hS4 (fun _ => ?_)
        clear hK K
        (try simp only [Act.put, List.setIfInBounds_toArray, List.set_cons_zero, List.set_cons_succ])
        refine wpAnyH_take (i := 12) (oi := ⟨some 9, Op.assign (Operand.tmp 25), 4, _, _, none⟩) (v := ?vab1012) rfl (by kernel_rfl) (by kernel_rfl) (by kernel_rfl) (fun _ _ _ h => h) (Or.inl ⟨by rfl, ?hab1012⟩) hS4 ?rab1012
        case hab1012 => (intro wz hSw; go_simp <;> with_reducible rfl)
        (try simp only [Act.put, List.setIfInBounds_toArray, List.set_cons_zero, List.set_cons_succ])
        refine wpAnyH_done (by kernel_rfl) ?_ _
        refine NoPanic.normal ?_
        have hp4 : wr.heap.size ≤ v0.heap.size := hS0.size
        have HV3 := Lib.hid hS4
        clear hS4 hBv
        generalize (((((((v1.setCell ⟨v0.heap.size, 0, none⟩ (.int .i64 a.id)).setCell ⟨v0.heap.size, 1, none⟩ (.int .i64 a.kind)).setCell ⟨v0.heap.size, 2, none⟩ (.int .i64 a.ticks)).setCell ⟨v0.heap.size, 3, none⟩ (.int .i64 a.every)).setCell ⟨v0.heap.size, 4, none⟩ (.int .i64 a.stacks)).setCell ⟨v0.heap.size, 5, none⟩ (.int .i64 a.amount)).setCell ⟨v0.heap.size, 6, none⟩ (.bool a.harm)) = v3 at HP4 HV3 ⊢
        generalize v0.heap.size = p at HP4 hp4 ⊢
        have hpl := lt_blk1 HP4.out
        clear hS0 hS1
        have q9 := cellOf1 HP4.out
        cases u with
        | false =>
          have HKy : Hid (kdP c.au kind x = false) := Lib.hid (by rw [HKd.out]; rfl)
          clear HKd
          go_wp2
          go_roundg (l.length - (k + 1))
          case measure => omega
          case rel => exact ⟨k + 1, by omega, rfl, by go_num, Lib.hid (take_no HXk.out HKy.out HF.out), Lib.hid (HW.out.trans (HV3.out.mono HW.out.size))⟩
        | true =>
          by_cases hk9 : a.kind = kind
          · have hk9' : (a.kind == kind) = true := by simpa using hk9
            have HKy : Hid (kdP c.au kind x = true) := Lib.hid (by rw [HKd.out]; simpa using hk9)
            clear HKd hk9
            go_wp2
            go_ret
            exact ⟨ret_bool (by rw [← HAns.out]; exact (List.any_eq_true.2 ⟨x, List.mem_of_getElem? HXk.out, HKy.out⟩).symm), HX.out.trans ((HW.out.trans (HV3.out.mono HW.out.size)).mono HX.out.size)⟩
          · have hk9' : (a.kind == kind) = false := by simpa using hk9
            have HKy : Hid (kdP c.au kind x = false) := Lib.hid (by rw [HKd.out]; simpa using hk9)
            clear HKd hk9
            go_wp2
            go_roundg (l.length - (k + 1))
            case measure => omega
            case rel => exact ⟨k + 1, by omega, rfl, by go_num, Lib.hid (take_no HXk.out HKy.out HF.out), Lib.hid (HW.out.trans (HV3.out.mono HW.out.size))⟩
    · have hlt' : decide ((k : Int) < l.length) = false := by simp; omega
      go_wp2
      go_ret
      exact ⟨ret_bool (by rw [← HAns.out]; exact (List.any_eq_false.2 (fun y hy => by rw [take_done (by omega) HF.out y hy]; simp)).symm), HX.out.trans (HW.out.mono HX.out.size)⟩
end Go.Proofs.Ytijobbdgiaiocaa.Con
