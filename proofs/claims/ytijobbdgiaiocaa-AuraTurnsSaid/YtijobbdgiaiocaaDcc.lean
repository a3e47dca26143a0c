/-
  Contract of the document's own Dispel.
-/
import Derived.Test.YtijobbdgiaiocaaDca
import Derived.Test.YtijobbdgiaiocaaPgc
namespace Go.Proofs.Ytijobbdgiaiocaa.Con
open Go.RowKit Go.Maps

set_option maxRecDepth 20000 in
set_option maxHeartbeats 2000000 in
theorem rdispel_any {w : World} {B : Nat} {c : Cn} {A : Option Addr} {l : List Ac} {kk cp : Nat} (n : Int) (hA : RuC c w) (hn : l.length = kk) (hl : (kk : Int) ≤ 100000) (hr : RW ac w B A l) (hB : B ≤ w.heap.size) :
    Calls Try.prog 17 #[cnv c, .slice A kk cp, .int .i64 n] w (DuA w (goS (diP c.au n l) l kk) (goS (fun i => !diP c.au n l i) l kk)) := by
  subst hn
  have hb := below_box w (oCn c)
  have HX := Lib.hid hb; have HA := Lib.hid (hA.of hb); have HN := Lib.hid (heap_alloc_new w (oCn c)); have HR := Lib.hid (hr.below hb hB)
  have HB := Lib.hid (Nat.le_trans hB hb.size); have HLT : Hid (w.heap.size < (w.alloc (oCn c)).heap.size) := Lib.hid (by simp)
  clear hA hr hB hb
  go_enter Try.func17, Try.ntmps17
  go_wp2
  generalize w.alloc (oCn c) = V at *
  go_loopg [8, 9, 10] l.length (fun gh s8 s9 s10 wr => ∃ (k : Nat) (A1 : Option Addr) (c1 : Nat) (L : List Ac) (A2 : Option Addr) (c2 : Nat) (G : List Ac), k ≤ l.length ∧ gh = l.length - k ∧ s10 = .int .i64 k ∧ s8 = .slice A1 L.length c1 ∧ s9 = .slice A2 G.length c2 ∧ Hid (L = goS (diP c.au n l) l k) ∧ Hid (G = goS (fun i => !diP c.au n l i) l k) ∧ Hid (Two ac ac V wr V.heap.size (.slice A1 L.length c1) (.slice A2 G.length c2) L G))
  case atStart => exact ⟨0, none, 0, [], none, 0, [], by omega, rfl, rfl, rfl, rfl, Lib.hid rfl, Lib.hid rfl, Lib.hid (Two.start ac ac (Below.refl _ _) (Nat.le_refl _))⟩
  case round =>
    obtain ⟨k, A1, c1, L, A2, c2, G, hk, rfl, rfl, rfl, rfl, HL, HG, HTW⟩ := hrel
    have HW : Hid (Below V.heap.size V wr) := Lib.hid HTW.out.below
    by_cases hlt : k < l.length
    · skip
      obtain ⟨x, hx⟩ : ∃ x, l[k]? = some x := ⟨_, List.getElem?_eq_getElem hlt⟩
      obtain ⟨b, off, hAA, hpl, d0, d1, d2, d3, d4, d5⟩ := rowAc HR.out hx HW.out HB.out
      subst hAA
      have hlt' : (k : Int) < l.length := by omega
      have HXk := Lib.hid hx
      have HCB : Hid (wr.heap[w.heap.size]? = some (oCn c)) := Lib.hid (hkeep1 HW.out HLT.out HN.out)
      have HBb : Hid (b < wr.heap.size) := Lib.hid (by have := HW.out.size; have := HB.out; omega)
      have HZa : Hid (∀ wz, Below wr.heap.size wr wz → wz.cell? ⟨b, off + k * 6, none⟩ = some (.int .i64 x.aura) ∧ wz.cell? ⟨b, off + k * 6 + 1, none⟩ = some (.int .i64 x.source) ∧ wz.cell? ⟨b, off + k * 6 + 2, none⟩ = some (.int .i64 x.stacks) ∧ wz.cell? ⟨b, off + k * 6 + 3, none⟩ = some (.int .i64 x.untl) ∧ wz.cell? ⟨b, off + k * 6 + 4, none⟩ = some (.int .i64 x.nxt) ∧ wz.cell? ⟨b, off + k * 6 + 5, none⟩ = some (.int .i64 x.left)) := Lib.hid (fun wz hz => ⟨(hz.cell (p := ⟨b, off + k * 6, none⟩) HBb.out).trans d0, (hz.cell (p := ⟨b, off + k * 6 + 1, none⟩) HBb.out).trans d1, (hz.cell (p := ⟨b, off + k * 6 + 2, none⟩) HBb.out).trans d2, (hz.cell (p := ⟨b, off + k * 6 + 3, none⟩) HBb.out).trans d3, (hz.cell (p := ⟨b, off + k * 6 + 4, none⟩) HBb.out).trans d4, (hz.cell (p := ⟨b, off + k * 6 + 5, none⟩) HBb.out).trans d5⟩)
      have HZ : Hid (∀ wz, Below wr.heap.size wr wz → wz.cell? ⟨b, off + k * 6, none⟩ = some (.int .i64 x.aura)) := Lib.hid (fun wz hz => (HZa.out wz hz).1)
      have HC := Lib.hid (fun U (hU : Below wr.heap.size wr U) => HA.out U (HW.out.trans (hU.mono HW.out.size)) x.aura)
      obtain ⟨a, ha⟩ : ∃ a, lkA c.au x.aura = a := ⟨_, rfl⟩
      obtain ⟨u, hu⟩ : ∃ u, lkB c.au x.aura = u := ⟨_, rfl⟩
      rw [ha, hu] at HC
      have HAE := Lib.hid ha; have HUE := Lib.hid hu
      have HKd : Hid (diP c.au n l k = !((u && a.harm) && decide ((G.length : Int) < n))) := Lib.hid (by rw [di_doc hx, HG.out]; unfold hmP; rw [ha, hu])
      have hLb : L.length ≤ k := by rw [HL.out]; exact go_le _ _ _
      have hGb : G.length ≤ k := by rw [HG.out]; exact go_le _ _ _
      have HL1 : Hid (L.length + [x].length ≤ 1000000) := Lib.hid (by simp; omega)
      have HL2 : Hid (G.length + [x].length ≤ 1000000) := Lib.hid (by simp; omega)
      clear hLb hGb
      clear hx ha hu d0 d1 d2 d3 d4 d5 hpl
      go_wp2
      refine wp_region_noPanic ?_
      refine wp_region_held_drew (S := fun w' => Below wr.heap.size wr w') (by kernel_rfl) ((Below.refl _ _).drew) (fun hS0 => ?_)
      generalize wr.drew = v0 at hS0 ⊢
      refine wpAnyH_take (i := 0) (oi := ⟨some 20, Op.load 31 (Operand.tmp 3), 31, _, _, none⟩) (v := ?va0) rfl (by kernel_rfl) (by kernel_rfl) (by kernel_rfl) (fun _ _ _ h => h) (Or.inl ⟨by rfl, ?ha0⟩) hS0 ?ra0
      case ha0 => (intro wz hSw; have u9 := cellOf1 (hkeep1 hSw (lt_blk1 HCB.out) HCB.out); go_simp <;> with_reducible rfl)
      (try simp only [Act.put, List.setIfInBounds_toArray, List.set_cons_zero, List.set_cons_succ])
      refine wpAnyH_take (i := 1) (oi := ⟨some 21, Op.move (Operand.tmp 1), 32, _, _, none⟩) (v := ?va1) rfl (by kernel_rfl) (by kernel_rfl) (by kernel_rfl) (fun _ _ _ h => h) (Or.inl ⟨by rfl, ?ha1⟩) hS0 ?ra1
      case ha1 => (intro wz hSw; go_simp <;> with_reducible rfl)
      (try simp only [Act.put, List.setIfInBounds_toArray, List.set_cons_zero, List.set_cons_succ])
      refine wpAnyH_take (i := 2) (oi := ⟨some 22, Op.move (Operand.tmp 10), 3, _, _, none⟩) (v := ?va2) rfl (by kernel_rfl) (by kernel_rfl) (by kernel_rfl) (fun _ _ _ h => h) (Or.inl ⟨by rfl, ?ha2⟩) hS0 ?ra2
      case ha2 => (intro wz hSw; go_simp <;> with_reducible rfl)
      (try simp only [Act.put, List.setIfInBounds_toArray, List.set_cons_zero, List.set_cons_succ])
      refine wpAnyH_take (i := 3) (oi := ⟨some 23, Op.indexAddr 32 (Operand.tmp 21) (Operand.tmp 22), 0, _, _, none⟩) (v := ?va3) rfl (by kernel_rfl) (by kernel_rfl) (by kernel_rfl) (fun _ _ _ h => h) (Or.inl ⟨by rfl, ?ha3⟩) hS0 ?ra3
      case ha3 => (intro wz hSw; go_simp <;> with_reducible rfl)
      (try simp only [Act.put, List.setIfInBounds_toArray, List.set_cons_zero, List.set_cons_succ])
      refine wpAnyH_take (i := 4) (oi := ⟨some 24, Op.fieldAddr 42 (Operand.tmp 23) 0, 0, _, _, none⟩) (v := ?va4) rfl (by kernel_rfl) (by kernel_rfl) (by kernel_rfl) (fun _ _ _ h => h) (Or.inl ⟨by rfl, ?ha4⟩) hS0 ?ra4
      case ha4 => (intro wz hSw; go_simp <;> with_reducible rfl)
      (try simp only [Act.put, List.setIfInBounds_toArray, List.set_cons_zero, List.set_cons_succ])
      refine wpAnyH_take (i := 5) (oi := ⟨some 25, Op.load 3 (Operand.tmp 24), 3, _, _, none⟩) (v := ?va5) rfl (by kernel_rfl) (by kernel_rfl) (by kernel_rfl) (fun _ _ _ h => h) (Or.inl ⟨by rfl, ?ha5⟩) hS0 ?ra5
      case ha5 => (intro wz hSw; have u8 := HZ.out wz hSw; go_simp <;> with_reducible rfl)
      (try simp only [Act.put, List.setIfInBounds_toArray, List.set_cons_zero, List.set_cons_succ])
      refine wpAnyH_ready (rs := [6, 10]) (by kernel_rfl) (by simp) ?_
      refine AllReadyH.cons (o := ⟨some 26, Op.call { callee := Callee.value (Operand.func 33), args := #[Operand.tmp 20, Operand.tmp 25], argTypes := #[31, 3] }, 55, _, _, none⟩) rfl (fun K hK => ?_) (AllReadyH.cons (o := ⟨some 11, Op.alloc 54, 0, _, _, none⟩) rfl (fun K hK => ?_) AllReadyH.nil)
      · go_simp
        ((with_reducible refine (HC.out v0 hS0).mono ?_); rintro e v1 ⟨rfl, hBv⟩; have hS1 : Below wr.heap.size wr v1 := hS0.trans (hBv.mono hS0.size))
        refine hK.out _ _ hS1 (fun _ => ?_)
        clear hK K
        (try simp only [Act.put, List.setIfInBounds_toArray, List.set_cons_zero, List.set_cons_succ])
        refine wpAnyH_take (i := 7) (oi := ⟨some 19, Op.move (Operand.tmp 26), 55, _, _, none⟩) (v := ?vab67) rfl (by kernel_rfl) (by kernel_rfl) (by kernel_rfl) (fun _ _ _ h => h) (Or.inl ⟨by rfl, ?hab67⟩) hS1 ?rab67
        case hab67 => (intro wz hSw; go_simp <;> with_reducible rfl)
        (try simp only [Act.put, List.setIfInBounds_toArray, List.set_cons_zero, List.set_cons_succ])
        refine wpAnyH_take (i := 8) (oi := ⟨some 27, Op.extract (Operand.tmp 19) 0, 54, _, _, none⟩) (v := ?vab68) rfl (by kernel_rfl) (by kernel_rfl) (by kernel_rfl) (fun _ _ _ h => h) (Or.inl ⟨by rfl, ?hab68⟩) hS1 ?rab68
        case hab68 => (intro wz hSw; go_simp <;> with_reducible rfl)
        (try simp only [Act.put, List.setIfInBounds_toArray, List.set_cons_zero, List.set_cons_succ])
        refine wpAnyH_take (i := 9) (oi := ⟨some 28, Op.extract (Operand.tmp 19) 1, 4, _, _, none⟩) (v := ?vab69) rfl (by kernel_rfl) (by kernel_rfl) (by kernel_rfl) (fun _ _ _ h => h) (Or.inl ⟨by rfl, ?hab69⟩) hS1 ?rab69
        case hab69 => (intro wz hSw; go_simp <;> with_reducible rfl)
        (try simp only [Act.put, List.setIfInBounds_toArray, List.set_cons_zero, List.set_cons_succ])
        refine wpAnyH_ready (rs := [10]) (by kernel_rfl) (by simp) ?_
        refine AllReadyH.cons (o := ⟨some 11, Op.alloc 54, 0, _, _, none⟩) rfl (fun K hK => ?_) AllReadyH.nil
        go_simp
        have HP1 : Hid ((v1.alloc zcAu).heap[v1.heap.size]? = some zcAu) := Lib.hid (heap_alloc_new v1 zcAu); have hS2 : Below wr.heap.size wr (v1.alloc zcAu) := hS1.alloc hS1.size _
        refine hK.out _ _ hS2 (fun _ => ?_)
        clear hK K
        (try simp only [Act.put, List.setIfInBounds_toArray, List.set_cons_zero, List.set_cons_succ])
        refine wpAnyH_ready (rs := [11]) (by kernel_rfl) (by simp) ?_
        refine AllReadyH.cons (o := ⟨none, Op.store 54 (Operand.tmp 11) (Operand.tmp 27), 0, _, _, none⟩) rfl (fun K hK => ?_) AllReadyH.nil
        have z1 := cellOf1 HP1.out; have y1 := frozOf1 HP1.out; have l1 := lt_blk1 HP1.out
        go_simp
        have hS4 : Below wr.heap.size wr (v1.alloc (oAu a)) := hS1.alloc hS1.size _; have HP4 : Hid ((v1.alloc (oAu a)).heap[v1.heap.size]? = some (oAu a)) := Lib.hid (heap_alloc_new v1 (oAu a))
        refine hK.out _ _ hS4 (fun _ => ?_)
        clear hK K
        (try simp only [Act.put, List.setIfInBounds_toArray, List.set_cons_zero, List.set_cons_succ])
        refine wpAnyH_take (i := 12) (oi := ⟨some 12, Op.assign (Operand.tmp 28), 4, _, _, none⟩) (v := ?vab612) rfl (by kernel_rfl) (by kernel_rfl) (by kernel_rfl) (fun _ _ _ h => h) (Or.inl ⟨by rfl, ?hab612⟩) hS4 ?rab612
        case hab612 => (intro wz hSw; go_simp <;> with_reducible rfl)
        (try simp only [Act.put, List.setIfInBounds_toArray, List.set_cons_zero, List.set_cons_succ])
        refine wpAnyH_done (by kernel_rfl) ?_ _
        refine NoPanic.normal ?_
        have hp4 : wr.heap.size ≤ v1.heap.size := hS1.size
        have HV3 := Lib.hid hS4
        clear hS4 hBv
        generalize (v1.alloc (oAu a)) = v3 at HP4 HV3 ⊢
        generalize v1.heap.size = p at HP4 hp4 ⊢
        have hpl := lt_blk1 HP4.out
        clear hS0 hS1
        have q9 := cellOf1 HP4.out
        obtain ⟨d0, d1, d2, d3, d4, d5⟩ := HZa.out v3 HV3.out
        have hbv : b < v3.heap.size := Nat.lt_of_lt_of_le HBb.out HV3.out.size
        have HT5 := Lib.hid ((HTW.out.of HV3.out).of (below_box v3 (oAc x)))
        have HRW : Hid (RW ac (v3.alloc (oAc x)) (v3.heap.size + 1) (some ⟨v3.heap.size, 0, none⟩) [x]) := Lib.hid (rw_at ac _ _ _ _ _ rfl rfl rfl)
        cases u with
        | false =>
          have HY : Hid (diP c.au n l k = true) := Lib.hid (by rw [HKd.out]; rfl)
          clear HKd
          go_wp2_with (at_builtin; refine wpList_app ac rfl 32 rfl (.tmp 47) (.tmp 52) rfl V.heap.size (v3.heap.size + 1) (.slice A1 L.length c1) L [x] (some ⟨v3.heap.size, 0, none⟩) 1 1 rfl rfl rfl HT5.out.a HRW.out HL1.out HT5.out.top ?_; intro A3 c3 w3 lm HLM HO3 HS3 HB3)
          go_roundg (l.length - (k + 1))
          case measure => omega
          case rel => exact ⟨k + 1, A3, c3, lm, A2, c2, G, by omega, rfl, by go_num, rfl, rfl, Lib.hid (by rw [HLM.out, HL.out, go_yes HXk.out HY.out]), Lib.hid (by rw [HG.out, go_no (by simp [HY.out])]), Lib.hid (HT5.out.put1 HS3.out HO3.out HB3.out)⟩
        | true =>
          obtain ⟨hm, hhm⟩ : ∃ hm, a.harm = hm := ⟨_, rfl⟩
          cases hm with
          | false =>
            have HY : Hid (diP c.au n l k = true) := Lib.hid (by rw [HKd.out, hhm]; rfl)
            clear HKd
            go_wp2_with (at_builtin; refine wpList_app ac rfl 32 rfl (.tmp 47) (.tmp 52) rfl V.heap.size (v3.heap.size + 1) (.slice A1 L.length c1) L [x] (some ⟨v3.heap.size, 0, none⟩) 1 1 rfl rfl rfl HT5.out.a HRW.out HL1.out HT5.out.top ?_; intro A3 c3 w3 lm HLM HO3 HS3 HB3)
            go_roundg (l.length - (k + 1))
            case measure => omega
            case rel => exact ⟨k + 1, A3, c3, lm, A2, c2, G, by omega, rfl, by go_num, rfl, rfl, Lib.hid (by rw [HLM.out, HL.out, go_yes HXk.out HY.out]), Lib.hid (by rw [HG.out, go_no (by simp [HY.out])]), Lib.hid (HT5.out.put1 HS3.out HO3.out HB3.out)⟩
          | true =>
            by_cases hg : (G.length : Int) < n
            · have HY : Hid (diP c.au n l k = false) := Lib.hid (by rw [HKd.out, hhm]; simp [hg])
              clear HKd
              go_wp2_with (at_builtin; refine wpList_app ac rfl 32 rfl (.tmp 40) (.tmp 45) rfl V.heap.size (v3.heap.size + 1) (.slice A2 G.length c2) G [x] (some ⟨v3.heap.size, 0, none⟩) 1 1 rfl rfl rfl HT5.out.b HRW.out HL2.out HT5.out.top ?_; intro A3 c3 w3 lm HLM HO3 HS3 HB3)
              go_roundg (l.length - (k + 1))
              case measure => omega
              case rel => exact ⟨k + 1, A1, c1, L, A3, c3, lm, by omega, rfl, by go_num, rfl, rfl, Lib.hid (by rw [HL.out, go_no HY.out]), Lib.hid (by rw [HLM.out, HG.out, go_yes HXk.out (by simp [HY.out])]), Lib.hid (HT5.out.put2 HS3.out HO3.out HB3.out)⟩
            · have hg' : decide ((G.length : Int) < n) = false := by simpa using hg
              have HY : Hid (diP c.au n l k = true) := Lib.hid (by rw [HKd.out, hhm, hg']; rfl)
              clear HKd hg
              go_wp2_with (at_builtin; refine wpList_app ac rfl 32 rfl (.tmp 47) (.tmp 52) rfl V.heap.size (v3.heap.size + 1) (.slice A1 L.length c1) L [x] (some ⟨v3.heap.size, 0, none⟩) 1 1 rfl rfl rfl HT5.out.a HRW.out HL1.out HT5.out.top ?_; intro A3 c3 w3 lm HLM HO3 HS3 HB3)
              go_roundg (l.length - (k + 1))
              case measure => omega
              case rel => exact ⟨k + 1, A3, c3, lm, A2, c2, G, by omega, rfl, by go_num, rfl, rfl, Lib.hid (by rw [HLM.out, HL.out, go_yes HXk.out HY.out]), Lib.hid (by rw [HG.out, go_no (by simp [HY.out])]), Lib.hid (HT5.out.put1 HS3.out HO3.out HB3.out)⟩
      · go_simp
        have hSa : Below wr.heap.size wr (v0.alloc zcAu) := hS0.alloc hS0.size _
        refine hK.out _ _ hSa (fun _ => ?_)
        clear hK K
        (try simp only [Act.put, List.setIfInBounds_toArray, List.set_cons_zero, List.set_cons_succ])
        refine wpAnyH_ready (rs := [6]) (by kernel_rfl) (by simp) ?_
        refine AllReadyH.cons (o := ⟨some 26, Op.call { callee := Callee.value (Operand.func 33), args := #[Operand.tmp 20, Operand.tmp 25], argTypes := #[31, 3] }, 55, _, _, none⟩) rfl (fun K hK => ?_) AllReadyH.nil
        go_simp
        ((with_reducible refine (HC.out _ hSa).mono ?_); rintro e v1 ⟨rfl, hBv⟩; have hS1 : Below wr.heap.size wr v1 := hSa.trans (hBv.mono hSa.size); have HP1 : Hid (v1.heap[v0.heap.size]? = some zcAu) := Lib.hid (hkeep1 hBv (by simp) (heap_alloc_new v0 zcAu)))
        refine hK.out _ _ hS1 (fun _ => ?_)
        clear hK K
        (try simp only [Act.put, List.setIfInBounds_toArray, List.set_cons_zero, List.set_cons_succ])
        refine wpAnyH_take (i := 7) (oi := ⟨some 19, Op.move (Operand.tmp 26), 55, _, _, none⟩) (v := ?vab107) rfl (by kernel_rfl) (by kernel_rfl) (by kernel_rfl) (fun _ _ _ h => h) (Or.inl ⟨by rfl, ?hab107⟩) hS1 ?rab107
        case hab107 => (intro wz hSw; go_simp <;> with_reducible rfl)
        (try simp only [Act.put, List.setIfInBounds_toArray, List.set_cons_zero, List.set_cons_succ])
        refine wpAnyH_take (i := 8) (oi := ⟨some 27, Op.extract (Operand.tmp 19) 0, 54, _, _, none⟩) (v := ?vab108) rfl (by kernel_rfl) (by kernel_rfl) (by kernel_rfl) (fun _ _ _ h => h) (Or.inl ⟨by rfl, ?hab108⟩) hS1 ?rab108
        case hab108 => (intro wz hSw; go_simp <;> with_reducible rfl)
        (try simp only [Act.put, List.setIfInBounds_toArray, List.set_cons_zero, List.set_cons_succ])
        refine wpAnyH_take (i := 9) (oi := ⟨some 28, Op.extract (Operand.tmp 19) 1, 4, _, _, none⟩) (v := ?vab109) rfl (by kernel_rfl) (by kernel_rfl) (by kernel_rfl) (fun _ _ _ h => h) (Or.inl ⟨by rfl, ?hab109⟩) hS1 ?rab109
        case hab109 => (intro wz hSw; go_simp <;> with_reducible rfl)
        (try simp only [Act.put, List.setIfInBounds_toArray, List.set_cons_zero, List.set_cons_succ])
        refine wpAnyH_ready (rs := [11]) (by kernel_rfl) (by simp) ?_
        refine AllReadyH.cons (o := ⟨none, Op.store 54 (Operand.tmp 11) (Operand.tmp 27), 0, _, _, none⟩) rfl (fun K hK => ?_) AllReadyH.nil
        have z1 := cellOf1 HP1.out; have y1 := frozOf1 HP1.out; have l1 := lt_blk1 HP1.out
        go_simp
        have hS4 : Below wr.heap.size wr (((((((v1.setCell ⟨v0.heap.size, 0, none⟩ (.int .i64 a.id)).setCell ⟨v0.heap.size, 1, none⟩ (.int .i64 a.kind)).setCell ⟨v0.heap.size, 2, none⟩ (.int .i64 a.ticks)).setCell ⟨v0.heap.size, 3, none⟩ (.int .i64 a.every)).setCell ⟨v0.heap.size, 4, none⟩ (.int .i64 a.stacks)).setCell ⟨v0.heap.size, 5, none⟩ (.int .i64 a.amount)).setCell ⟨v0.heap.size, 6, none⟩ (.bool a.harm)) := below_setCells v0.heap.size hS0.size [.int .i64 a.id, .int .i64 a.kind, .int .i64 a.ticks, .int .i64 a.every, .int .i64 a.stacks, .int .i64 a.amount, .bool a.harm] 0 _ hS1; have HP4 : Hid ((((((((v1.setCell ⟨v0.heap.size, 0, none⟩ (.int .i64 a.id)).setCell ⟨v0.heap.size, 1, none⟩ (.int .i64 a.kind)).setCell ⟨v0.heap.size, 2, none⟩ (.int .i64 a.ticks)).setCell ⟨v0.heap.size, 3, none⟩ (.int .i64 a.every)).setCell ⟨v0.heap.size, 4, none⟩ (.int .i64 a.stacks)).setCell ⟨v0.heap.size, 5, none⟩ (.int .i64 a.amount)).setCell ⟨v0.heap.size, 6, none⟩ (.bool a.harm)).heap[v0.heap.size]? = some (oAu a)) := Lib.hid (put7 HP1.out _ _ _ _ _ _ _)
        refine hK.out _ _ hS4 (fun _ => ?_)
        clear hK K
        (try simp only [Act.put, List.setIfInBounds_toArray, List.set_cons_zero, List.set_cons_succ])
        refine wpAnyH_take (i := 12) (oi := ⟨some 12, Op.assign (Operand.tmp 28), 4, _, _, none⟩) (v := ?vab1012) rfl (by kernel_rfl) (by kernel_rfl) (by kernel_rfl) (fun _ _ _ h => h) (Or.inl ⟨by rfl, ?hab1012⟩) hS4 ?rab1012
        case hab1012 => (intro wz hSw; go_simp <;> with_reducible rfl)
        (try simp only [Act.put, List.setIfInBounds_toArray, List.set_cons_zero, List.set_cons_succ])
        refine wpAnyH_done (by kernel_rfl) ?_ _
        refine NoPanic.normal ?_
        have hp4 : wr.heap.size ≤ v0.heap.size := hS0.size
        have HV3 := Lib.hid hS4
        clear hS4 hBv
        generalize (((((((v1.setCell ⟨v0.heap.size, 0, none⟩ (.int .i64 a.id)).setCell ⟨v0.heap.size, 1, none⟩ (.int .i64 a.kind)).setCell ⟨v0.heap.size, 2, none⟩ (.int .i64 a.ticks)).setCell ⟨v0.heap.size, 3, none⟩ (.int .i64 a.every)).setCell ⟨v0.heap.size, 4, none⟩ (.int .i64 a.stacks)).setCell ⟨v0.heap.size, 5, none⟩ (.int .i64 a.amount)).setCell ⟨v0.heap.size, 6, none⟩ (.bool a.harm)) = v3 at HP4 HV3 ⊢
        generalize v0.heap.size = p at HP4 hp4 ⊢
        have hpl := lt_blk1 HP4.out
        clear hS0 hS1
        have q9 := cellOf1 HP4.out
        obtain ⟨d0, d1, d2, d3, d4, d5⟩ := HZa.out v3 HV3.out
        have hbv : b < v3.heap.size := Nat.lt_of_lt_of_le HBb.out HV3.out.size
        have HT5 := Lib.hid ((HTW.out.of HV3.out).of (below_box v3 (oAc x)))
        have HRW : Hid (RW ac (v3.alloc (oAc x)) (v3.heap.size + 1) (some ⟨v3.heap.size, 0, none⟩) [x]) := Lib.hid (rw_at ac _ _ _ _ _ rfl rfl rfl)
        cases u with
        | false =>
          have HY : Hid (diP c.au n l k = true) := Lib.hid (by rw [HKd.out]; rfl)
          clear HKd
          go_wp2_with (at_builtin; refine wpList_app ac rfl 32 rfl (.tmp 47) (.tmp 52) rfl V.heap.size (v3.heap.size + 1) (.slice A1 L.length c1) L [x] (some ⟨v3.heap.size, 0, none⟩) 1 1 rfl rfl rfl HT5.out.a HRW.out HL1.out HT5.out.top ?_; intro A3 c3 w3 lm HLM HO3 HS3 HB3)
          go_roundg (l.length - (k + 1))
          case measure => omega
          case rel => exact ⟨k + 1, A3, c3, lm, A2, c2, G, by omega, rfl, by go_num, rfl, rfl, Lib.hid (by rw [HLM.out, HL.out, go_yes HXk.out HY.out]), Lib.hid (by rw [HG.out, go_no (by simp [HY.out])]), Lib.hid (HT5.out.put1 HS3.out HO3.out HB3.out)⟩
        | true =>
          obtain ⟨hm, hhm⟩ : ∃ hm, a.harm = hm := ⟨_, rfl⟩
          cases hm with
          | false =>
            have HY : Hid (diP c.au n l k = true) := Lib.hid (by rw [HKd.out, hhm]; rfl)
            clear HKd
            go_wp2_with (at_builtin; refine wpList_app ac rfl 32 rfl (.tmp 47) (.tmp 52) rfl V.heap.size (v3.heap.size + 1) (.slice A1 L.length c1) L [x] (some ⟨v3.heap.size, 0, none⟩) 1 1 rfl rfl rfl HT5.out.a HRW.out HL1.out HT5.out.top ?_; intro A3 c3 w3 lm HLM HO3 HS3 HB3)
            go_roundg (l.length - (k + 1))
            case measure => omega
            case rel => exact ⟨k + 1, A3, c3, lm, A2, c2, G, by omega, rfl, by go_num, rfl, rfl, Lib.hid (by rw [HLM.out, HL.out, go_yes HXk.out HY.out]), Lib.hid (by rw [HG.out, go_no (by simp [HY.out])]), Lib.hid (HT5.out.put1 HS3.out HO3.out HB3.out)⟩
          | true =>
            by_cases hg : (G.length : Int) < n
            · have HY : Hid (diP c.au n l k = false) := Lib.hid (by rw [HKd.out, hhm]; simp [hg])
              clear HKd
              go_wp2_with (at_builtin; refine wpList_app ac rfl 32 rfl (.tmp 40) (.tmp 45) rfl V.heap.size (v3.heap.size + 1) (.slice A2 G.length c2) G [x] (some ⟨v3.heap.size, 0, none⟩) 1 1 rfl rfl rfl HT5.out.b HRW.out HL2.out HT5.out.top ?_; intro A3 c3 w3 lm HLM HO3 HS3 HB3)
              go_roundg (l.length - (k + 1))
              case measure => omega
              case rel => exact ⟨k + 1, A1, c1, L, A3, c3, lm, by omega, rfl, by go_num, rfl, rfl, Lib.hid (by rw [HL.out, go_no HY.out]), Lib.hid (by rw [HLM.out, HG.out, go_yes HXk.out (by simp [HY.out])]), Lib.hid (HT5.out.put2 HS3.out HO3.out HB3.out)⟩
            · have hg' : decide ((G.length : Int) < n) = false := by simpa using hg
              have HY : Hid (diP c.au n l k = true) := Lib.hid (by rw [HKd.out, hhm, hg']; rfl)
              clear HKd hg
              go_wp2_with (at_builtin; refine wpList_app ac rfl 32 rfl (.tmp 47) (.tmp 52) rfl V.heap.size (v3.heap.size + 1) (.slice A1 L.length c1) L [x] (some ⟨v3.heap.size, 0, none⟩) 1 1 rfl rfl rfl HT5.out.a HRW.out HL1.out HT5.out.top ?_; intro A3 c3 w3 lm HLM HO3 HS3 HB3)
              go_roundg (l.length - (k + 1))
              case measure => omega
              case rel => exact ⟨k + 1, A3, c3, lm, A2, c2, G, by omega, rfl, by go_num, rfl, rfl, Lib.hid (by rw [HLM.out, HL.out, go_yes HXk.out HY.out]), Lib.hid (by rw [HG.out, go_no (by simp [HY.out])]), Lib.hid (HT5.out.put1 HS3.out HO3.out HB3.out)⟩
    · have hlt' : decide ((k : Int) < l.length) = false := by simp; omega
      have hkn : k = l.length := by omega
      subst hkn
      go_wp2
      go_ret2
      have e1 := HL.out; have e2 := HG.out
      subst e1; subst e2
      exact ⟨A1, c1, A2, c2, rfl, Lib.hid (HTW.out.base HX.out.size HX.out)⟩
end Go.Proofs.Ytijobbdgiaiocaa.Con
