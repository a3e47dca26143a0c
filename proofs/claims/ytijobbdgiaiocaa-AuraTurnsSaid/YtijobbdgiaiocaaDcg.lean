/-
  Contract of the document's own Apply.
-/
import Derived.Test.YtijobbdgiaiocaaDca
import Derived.Test.YtijobbdgiaiocaaPge
namespace Go.Proofs.Ytijobbdgiaiocaa.Con
open Go.RowKit Go.Maps

abbrev zcAc : Obj := .cells #[.int .i64 0, .int .i64 0, .int .i64 0, .int .i64 0, .int .i64 0, .int .i64 0] 42
theorem put6 {w : World} {P : Nat} {u0 u1 u2 u3 u4 u5 : Value} {t : TypeId} (h : w.heap[P]? = some (.cells #[u0, u1, u2, u3, u4, u5] t (0, 0))) (v0 v1 v2 v3 v4 v5 : Value) :
    (w.setCells P 0 [v0, v1, v2, v3, v4, v5]).heap[P]? = some (.cells #[v0, v1, v2, v3, v4, v5] t (0, 0)) := by
  simp [World.setCells, World.setCell, Array.getElem?_modify, h]
theorem box_next {w : World} {P : Nat} {y : Ac} (h : w.heap[P]? = some (oAc y)) (v : Int) : (w.setCell ⟨P, 4, none⟩ (.int .i64 v)).heap[P]? = some (oAc ⟨y.aura, y.source, y.stacks, y.untl, v, y.left⟩) := by
  simp only [World.setCell, Array.getElem?_modify, h]; simp

set_option maxRecDepth 20000 in
set_option maxHeartbeats 8000000 in
theorem rapply_any {w : World} {B : Nat} {c : Cn} {A : Option Addr} {l : List Ac} {n cp : Nat} (id src now : Int) (hA : RuC c w) (hau : ∀ a ∈ c.au, NAu a) (hac : ∀ a ∈ l, NAc a) (hn : l.length = n) (hl : (n : Int) ≤ 100000) (hr : RW ac w B A l) (hB : B ≤ w.heap.size) (hno : Fits now) :
    Calls Try.prog 10 #[cnv c, .slice A n cp, .int .i64 id, .int .i64 src, .int .i64 now] w (ApA w (apL c.au l id src now) (apE c.au l id src)) := by
  subst hn
  have hb := below_box w (oCn c)
  obtain ⟨a, ha⟩ : ∃ a, lkA c.au id = a := ⟨_, rfl⟩
  obtain ⟨u, hy⟩ : ∃ u, lkB c.au id = u := ⟨_, rfl⟩
  have HNa := Lib.hid (lk_nau hau id)
  have HC := Lib.hid (hA _ hb id)
  rw [ha] at HNa HC
  rw [hy] at HC
  have HX := Lib.hid hb; have HR := Lib.hid hr; have HB := Lib.hid hB; have HAE := Lib.hid ha; have HAC := Lib.hid hac
  have hFt : Fits a.ticks := HNa.out.1
  have hFe : Fits a.every := HNa.out.2.1
  have fits1 : Fits 1 := ⟨by omega, by omega⟩
  have HY := Lib.hid hy
  clear hA hau hr hB hb ha hac hy
  go_enter Try.func10, Try.ntmps10
  cases u with
  | false =>
    go_wp2_with (first | ((with_reducible refine HC.out.mono ?_); rintro e w1 ⟨rfl, hB1⟩; have hV1 : Below w.heap.size w w1 := HX.out.trans (hB1.mono HX.out.size); have hz1 := hV1.size))
    go_ret2
    exact apA_nil (ap_none (src := src) (now := now) HY.out).1 (ap_none (l := l) HY.out).2 (by go_grown)
  | true =>
    go_wp2_with (first
      | ((with_reducible refine HC.out.mono ?_); rintro e w1 ⟨rfl, hB1⟩; have hV1 : Below w.heap.size w w1 := HX.out.trans (hB1.mono HX.out.size); have hz1 := hV1.size; have HV3 : Hid (Below w.heap.size w (w1.alloc (oAu a))) := Lib.hid (hV1.alloc hz1 _); have HBA : Hid ((w1.alloc (oAu a)).heap[w1.heap.size]? = some (oAu a)) := Lib.hid (heap_alloc_new w1 (oAu a)); have HCp := Lib.hid (copied_any A cp l.length B l (w1.alloc (oAu a)) rfl (HR.out.below HV3.out HB.out) (Nat.le_trans HB.out HV3.out.size) hl); clear hB1 hV1)
      | ((with_reducible refine HCp.out.mono ?_); rintro e w3 ⟨A3, c3, rfl, HO3, hB3⟩; have HV4 : Hid (Below w.heap.size w w3) := Lib.hid (HV3.out.trans (hB3.mono HV3.out.size)); have hs3 : w1.heap.size < w3.heap.size := Nat.lt_of_lt_of_le (by simp) hB3.size; have HBA3 : Hid (w3.heap[w1.heap.size]? = some (oAu a)) := Lib.hid (hkeep1 hB3 (by simp) HBA.out); have HW23 : Hid ((w1.alloc (oAu a)).heap.size ≤ w3.heap.size) := Lib.hid hB3.size; have u3 := cellOf1 HBA3.out; clear hB3))
    have HZ2 : Hid (w1.heap.size < (w1.alloc (oAu a)).heap.size) := Lib.hid (by simp)
    clear HCp
    generalize w1.alloc (oAu a) = w2 at *
    have hs2 := HZ2.out
    go_loopg [15] l.length (fun gh s15 wr => ∃ (k : Nat), k ≤ l.length ∧ gh = l.length - k ∧ s15 = .int .i64 k ∧ Hid (∀ y ∈ l.take k, isAc id src y = false) ∧ Hid (w3 = wr))
    case atStart => exact ⟨0, by omega, rfl, rfl, Lib.hid (by simp), Lib.hid rfl⟩
    case round =>
      obtain ⟨k, hk, rfl, rfl, HF, HWe⟩ := hrel
      have hwe := HWe.out
      subst hwe
      by_cases hlt : k < l.length
      · obtain ⟨x, hx⟩ : ∃ x, l[k]? = some x := ⟨_, List.getElem?_eq_getElem hlt⟩
        have hklt : (k : Int) < l.length := by omega
        have HXk := Lib.hid hx
        have hF1 : Fits x.stacks := (HAC.out x (List.mem_of_getElem? hx)).1
        have hF2 : Fits (stkL a x.stacks) := stk_fits HNa.out _
        have HMn : Hid (mn (held (x.stacks + 1)) a.stacks = stkL a x.stacks) := Lib.hid rfl
        obtain ⟨mb, hmb, hmb0, hmb1, hmc, hmf⟩ := HO3.out.at' hx
        subst hmb
        have HMB := Lib.hid hmb0
        obtain ⟨d0, d1, d2, d3, d4, d5⟩ := cellsAc (o := k * 6) hmc
        have HLd := Lib.hid d2
        have HFz := Lib.hid hmf
        clear hx hmc hmf hmb0
        by_cases t1 : x.aura = id
        · have t1' : (x.aura == id) = true := by simpa using t1
          by_cases t2 : x.source = src
          · have t2' : (x.source == src) = true := by simpa using t2
            have HPI : Hid (plI l id src = (k : Int)) := Lib.hid (idx_hit HXk.out (by unfold isAc; simp [t1, t2]) HF.out)
            clear t1 t2
            have HNe0 : Hid (w1.heap.size ≠ mb) := Lib.hid (by have := HMB.out; omega)
            have HD0 : Hid (∀ V, V = w3.drew → OW ac V w2.heap.size (.slice (some ⟨mb, 0, none⟩) l.length c3) l ∧ Below w.heap.size w V ∧ V.heap[w1.heap.size]? = some (oAu a) ∧ V.cell? ⟨mb, k * 6 + 2, none⟩ = some (.int .i64 x.stacks) ∧ (∀ o, V.frozen? ⟨mb, o, none⟩ = false)) := Lib.hid (fun V hV => by subst hV; exact ⟨HO3.out, HV4.out.drew, HBA3.out, HLd.out, HFz.out⟩)
            clear HLd HFz
            go_wp2
            clear d0 d1 d2 d3 d4 d5
            refine wp_region_noPanic ?_
            refine wp_region_held_drew (S := fun w' => w'.heap[w1.heap.size]? = some (oAu a)) (by kernel_rfl) (HD0.out _ rfl).2.2.1 (fun _ => ?_)
            generalize hv0 : w3.drew = v0
            obtain ⟨ho5, hv5, hS0, hld, hfz⟩ := HD0.out v0 hv0.symm
            have HO5 := Lib.hid ho5; have HV5 := Lib.hid hv5; have HLd := Lib.hid hld; have HFz := Lib.hid hfz; have hmbl := HO5.out.lt (k := mb) rfl
            clear ho5 hv5 hld hfz hv0 HD0
            refine wpAnyH_take (i := 0) (oi := ⟨some 49, Op.move (Operand.tmp 14), 32, _, _, none⟩) (v := ?va0) rfl (by kernel_rfl) (by kernel_rfl) (by kernel_rfl) (fun _ _ _ h => h) (Or.inl ⟨by rfl, ?ha0⟩) hS0 ?ra0
            case ha0 => (intro wz hSw; go_simp <;> with_reducible rfl)
            (try simp only [Act.put, List.setIfInBounds_toArray, List.set_cons_zero, List.set_cons_succ])
            refine wpAnyH_take (i := 1) (oi := ⟨some 50, Op.move (Operand.tmp 15), 3, _, _, none⟩) (v := ?va1) rfl (by kernel_rfl) (by kernel_rfl) (by kernel_rfl) (fun _ _ _ h => h) (Or.inl ⟨by rfl, ?ha1⟩) hS0 ?ra1
            case ha1 => (intro wz hSw; go_simp <;> with_reducible rfl)
            (try simp only [Act.put, List.setIfInBounds_toArray, List.set_cons_zero, List.set_cons_succ])
            refine wpAnyH_take (i := 2) (oi := ⟨some 51, Op.move (Operand.tmp 14), 32, _, _, none⟩) (v := ?va2) rfl (by kernel_rfl) (by kernel_rfl) (by kernel_rfl) (fun _ _ _ h => h) (Or.inl ⟨by rfl, ?ha2⟩) hS0 ?ra2
            case ha2 => (intro wz hSw; go_simp <;> with_reducible rfl)
            (try simp only [Act.put, List.setIfInBounds_toArray, List.set_cons_zero, List.set_cons_succ])
            refine wpAnyH_take (i := 3) (oi := ⟨some 52, Op.move (Operand.tmp 15), 3, _, _, none⟩) (v := ?va3) rfl (by kernel_rfl) (by kernel_rfl) (by kernel_rfl) (fun _ _ _ h => h) (Or.inl ⟨by rfl, ?ha3⟩) hS0 ?ra3
            case ha3 => (intro wz hSw; go_simp <;> with_reducible rfl)
            (try simp only [Act.put, List.setIfInBounds_toArray, List.set_cons_zero, List.set_cons_succ])
            refine wpAnyH_take (i := 4) (oi := ⟨some 53, Op.indexAddr 32 (Operand.tmp 51) (Operand.tmp 52), 0, _, _, none⟩) (v := ?va4) rfl (by kernel_rfl) (by kernel_rfl) (by kernel_rfl) (fun _ _ _ h => h) (Or.inl ⟨by rfl, ?ha4⟩) hS0 ?ra4
            case ha4 => (intro wz hSw; go_simp <;> with_reducible rfl)
            (try simp only [Act.put, List.setIfInBounds_toArray, List.set_cons_zero, List.set_cons_succ])
            refine wpAnyH_take (i := 5) (oi := ⟨some 54, Op.fieldAddr 42 (Operand.tmp 53) 2, 0, _, _, none⟩) (v := ?va5) rfl (by kernel_rfl) (by kernel_rfl) (by kernel_rfl) (fun _ _ _ h => h) (Or.inl ⟨by rfl, ?ha5⟩) hS0 ?ra5
            case ha5 => (intro wz hSw; go_simp <;> with_reducible rfl)
            (try simp only [Act.put, List.setIfInBounds_toArray, List.set_cons_zero, List.set_cons_succ])
            refine wpAnyH_take (i := 8) (oi := ⟨some 57, Op.fieldAddr 54 (Operand.tmp 12) 4, 0, _, _, none⟩) (v := ?va8) rfl (by kernel_rfl) (by kernel_rfl) (by kernel_rfl) (fun _ _ _ h => h) (Or.inl ⟨by rfl, ?ha8⟩) hS0 ?ra8
            case ha8 => (intro wz hSw; go_simp <;> with_reducible rfl)
            (try simp only [Act.put, List.setIfInBounds_toArray, List.set_cons_zero, List.set_cons_succ])
            refine wpAnyH_take (i := 9) (oi := ⟨some 58, Op.load 3 (Operand.tmp 57), 3, _, _, none⟩) (v := ?va9) rfl (by kernel_rfl) (by kernel_rfl) (by kernel_rfl) (fun _ _ _ h => h) (Or.inl ⟨by rfl, ?ha9⟩) hS0 ?ra9
            case ha9 => (intro wz hSw; have u9 := cellOf1 hSw; go_simp <;> with_reducible rfl)
            (try simp only [Act.put, List.setIfInBounds_toArray, List.set_cons_zero, List.set_cons_succ])
            refine wpAnyH_ready (rs := [6]) (by kernel_rfl) (by simp) ?_
            refine AllReadyH.cons (o := ⟨some 55, Op.load 3 (Operand.tmp 54), 3, _, _, none⟩) rfl (fun K hK => ?_) AllReadyH.nil
            have zc := HLd.out
            go_simp
            refine hK.out _ _ hS0 (fun _ => ?_)
            clear hK K
            (try simp only [Act.put, List.setIfInBounds_toArray, List.set_cons_zero, List.set_cons_succ])
            refine wpAnyH_ready (rs := [7]) (by kernel_rfl) (by simp) ?_
            refine AllReadyH.cons (o := ⟨some 56, Op.call { callee := Callee.value (Operand.func 35), args := #[Operand.tmp 55, Operand.const (Value.int IntKind.i64 1)], argTypes := #[3, 3] }, 3, _, _, none⟩) rfl (fun K hK => ?_) AllReadyH.nil
            go_simp
            ((with_reducible refine (radd_any _ _ _ hF1 fits1).mono ?_); rintro e v1 ⟨rfl, rfl⟩)
            refine hK.out _ _ hS0 (fun _ => ?_)
            clear hK K
            (try simp only [Act.put, List.setIfInBounds_toArray, List.set_cons_zero, List.set_cons_succ])
            refine wpAnyH_ready (rs := [10]) (by kernel_rfl) (by simp) ?_
            refine AllReadyH.cons (o := ⟨some 59, Op.call { callee := Callee.builtin Builtin.min, args := #[Operand.tmp 56, Operand.tmp 58], argTypes := #[3, 3] }, 3, _, _, none⟩) rfl (fun K hK => ?_) AllReadyH.nil
            refine step_min rfl (.tmp 56) (.tmp 58) _ _ _ rfl (by simp [Act.eval]) (by simp [Act.eval]) HMn.out ?_
            refine hK.out _ _ hS0 (fun _ => ?_)
            clear hK K
            (try simp only [Act.put, List.setIfInBounds_toArray, List.set_cons_zero, List.set_cons_succ])
            refine wpAnyH_take (i := 11) (oi := ⟨some 60, Op.indexAddr 32 (Operand.tmp 49) (Operand.tmp 50), 0, _, _, none⟩) (v := ?va11) rfl (by kernel_rfl) (by kernel_rfl) (by kernel_rfl) (fun _ _ _ h => h) (Or.inl ⟨by rfl, ?ha11⟩) hS0 ?ra11
            case ha11 => (intro wz hSw; go_simp <;> with_reducible rfl)
            (try simp only [Act.put, List.setIfInBounds_toArray, List.set_cons_zero, List.set_cons_succ])
            refine wpAnyH_take (i := 12) (oi := ⟨some 61, Op.fieldAddr 42 (Operand.tmp 60) 2, 0, _, _, none⟩) (v := ?va12) rfl (by kernel_rfl) (by kernel_rfl) (by kernel_rfl) (fun _ _ _ h => h) (Or.inl ⟨by rfl, ?ha12⟩) hS0 ?ra12
            case ha12 => (intro wz hSw; go_simp <;> with_reducible rfl)
            (try simp only [Act.put, List.setIfInBounds_toArray, List.set_cons_zero, List.set_cons_succ])
            refine wpAnyH_ready (rs := [13]) (by kernel_rfl) (by simp) ?_
            refine AllReadyH.cons (o := ⟨none, Op.store 3 (Operand.tmp 61) (Operand.tmp 59), 0, _, _, none⟩) rfl (fun K hK => ?_) AllReadyH.nil
            have zc := HLd.out; have zf := HFz.out
            go_simp
            have hS1 : (v0.setCell ⟨mb, k * 6 + 2, none⟩ (.int .i64 (stkL a x.stacks))).heap[w1.heap.size]? = some (oAu a) := (Below.heap_setCell v0 _ _ _ (by show w1.heap.size ≠ mb; exact HNe0.out)).trans hS0
            refine hK.out _ _ hS1 (fun _ => ?_)
            clear hK K
            (try simp only [Act.put, List.setIfInBounds_toArray, List.set_cons_zero, List.set_cons_succ])
            refine wpAnyH_done (by kernel_rfl) ?_ _
            refine NoPanic.normal ?_
            have HQ6 := Lib.hid hS1
            clear hS1 hS0
            have HO6 : Hid (OW ac (v0.setCell ⟨mb, k * 6 + 2, none⟩ (.int .i64 (stkL a x.stacks))) w2.heap.size (.slice (some ⟨mb, 0, none⟩) l.length c3) (l.set k (⟨x.aura, x.source, stkL a x.stacks, x.untl, x.nxt, x.left⟩ : Ac))) := Lib.hid (HO5.out.poke rfl HXk.out (j := 2) (by decide) rfl)
            have HXN : Hid ((l.set k (⟨x.aura, x.source, stkL a x.stacks, x.untl, x.nxt, x.left⟩ : Ac))[k]? = some (⟨x.aura, x.source, stkL a x.stacks, x.untl, x.nxt, x.left⟩ : Ac)) := Lib.hid (set_at HXk.out _)
            have HV6 : Hid (Below w.heap.size w (v0.setCell ⟨mb, k * 6 + 2, none⟩ (.int .i64 (stkL a x.stacks)))) := Lib.hid (HV5.out.setCell (Nat.le_trans HV3.out.size HMB.out) _)
            clear HLd HFz HNe0
            generalize (v0.setCell ⟨mb, k * 6 + 2, none⟩ (.int .i64 (stkL a x.stacks))) = w5 at HO6 HV6 HQ6 ⊢
            obtain ⟨mb6, hmb6, _, hmbl6, hmc6, hmf6⟩ := HO6.out.at' HXN.out
            injection hmb6 with e6; injection e6 with e6; subst e6
            have zc := (cellsAc (o := k * 6) hmc6).2.2.2.1
            have u5 := cellOf1 HQ6.out; have u6 := lt_blk1 HQ6.out
            clear hmc6
            go_wp2_with (first | ((with_reducible refine (radd_any _ _ _ hno hFt).mono ?_); rintro e w7 ⟨rfl, rfl⟩))
            have HM2 : Hid (((l.set k (⟨x.aura, x.source, stkL a x.stacks, x.untl, x.nxt, x.left⟩ : Ac)).set k (⟨x.aura, x.source, stkL a x.stacks, held (now + a.ticks), x.nxt, x.left⟩ : Ac))[k]? = some (⟨x.aura, x.source, stkL a x.stacks, held (now + a.ticks), x.nxt, x.left⟩ : Ac)) := Lib.hid (set_at HXN.out _)
            have HO7 : Hid (OW ac (w5.setCell ⟨mb, k * 6 + 3, none⟩ (.int .i64 (held (now + a.ticks)))) w2.heap.size (.slice (some ⟨mb, 0, none⟩) l.length c3) ((l.set k (⟨x.aura, x.source, stkL a x.stacks, x.untl, x.nxt, x.left⟩ : Ac)).set k (⟨x.aura, x.source, stkL a x.stacks, held (now + a.ticks), x.nxt, x.left⟩ : Ac))) := Lib.hid (HO6.out.poke rfl HXN.out (j := 3) (by decide) rfl)
            have HV7 : Hid (Below w.heap.size w (w5.setCell ⟨mb, k * 6 + 3, none⟩ (.int .i64 (held (now + a.ticks))))) := Lib.hid (HV6.out.setCell (Nat.le_trans HV3.out.size HMB.out) _)
            have HNe : Hid (w1.heap.size ≠ mb) := Lib.hid (by have := HMB.out; omega)
            have HS6 : Hid ((w5.setCell ⟨mb, k * 6 + 3, none⟩ (.int .i64 (held (now + a.ticks)))).heap[w1.heap.size]? = some (oAu a)) := Lib.hid ((Below.heap_setCell w5 _ _ _ (by show w1.heap.size ≠ mb; exact HNe.out)).trans HQ6.out)
            generalize (w5.setCell ⟨mb, k * 6 + 3, none⟩ (.int .i64 (held (now + a.ticks)))) = w6 at HO7 HV7 HS6 ⊢
            have HD : Hid (∀ V, V = w6.drew → OW ac V w2.heap.size (.slice (some ⟨mb, 0, none⟩) l.length c3) ((l.set k (⟨x.aura, x.source, stkL a x.stacks, x.untl, x.nxt, x.left⟩ : Ac)).set k (⟨x.aura, x.source, stkL a x.stacks, held (now + a.ticks), x.nxt, x.left⟩ : Ac)) ∧ Below w.heap.size w V ∧ V.heap[w1.heap.size]? = some (oAu a)) := Lib.hid (fun V hV => by subst hV; exact ⟨HO7.out, HV7.out.drew, HS6.out⟩)
            clear HO7 HV7 HS6
            refine wp_region_noPanic ?_
            refine wp_region_held_drew (S := fun w' => w'.heap[w1.heap.size]? = some (oAu a)) (by kernel_rfl) (HD.out _ rfl).2.2 (fun _ => ?_)
            generalize hv0 : w6.drew = v0
            obtain ⟨ho7, hv7, hS0⟩ := HD.out v0 hv0.symm
            have HO7 := Lib.hid ho7; have HV7 := Lib.hid hv7; have HLs := Lib.hid (lt_blk1 hS0)
            clear ho7 hv7 hv0 HD
            obtain ⟨mb7, hmb7, _, hmbl7, hmc7, hmf7⟩ := HO7.out.at' HM2.out
            injection hmb7 with e7; injection e7 with e7; subst e7
            have HLd := Lib.hid (cellsAc (o := k * 6) hmc7).2.2.1
            clear hmc7 hmf7
            refine wpAnyH_take (i := 0) (oi := ⟨some 70, Op.move (Operand.tmp 14), 32, _, _, none⟩) (v := ?vb0) rfl (by kernel_rfl) (by kernel_rfl) (by kernel_rfl) (fun _ _ _ h => h) (Or.inl ⟨by rfl, ?hb0⟩) hS0 ?rb0
            case hb0 => (intro wz hSw; go_simp <;> with_reducible rfl)
            (try simp only [Act.put, List.setIfInBounds_toArray, List.set_cons_zero, List.set_cons_succ])
            refine wpAnyH_take (i := 1) (oi := ⟨some 71, Op.move (Operand.tmp 15), 3, _, _, none⟩) (v := ?vb1) rfl (by kernel_rfl) (by kernel_rfl) (by kernel_rfl) (fun _ _ _ h => h) (Or.inl ⟨by rfl, ?hb1⟩) hS0 ?rb1
            case hb1 => (intro wz hSw; go_simp <;> with_reducible rfl)
            (try simp only [Act.put, List.setIfInBounds_toArray, List.set_cons_zero, List.set_cons_succ])
            refine wpAnyH_take (i := 2) (oi := ⟨some 72, Op.load 54 (Operand.tmp 12), 54, _, _, none⟩) (v := ?vb2) rfl (by kernel_rfl) (by kernel_rfl) (by kernel_rfl) (fun _ _ _ h => h) (Or.inl ⟨by rfl, ?hb2⟩) hS0 ?rb2
            case hb2 => (intro wz hSw; have u9 := cellOf1 hSw; go_simp <;> with_reducible rfl)
            (try simp only [Act.put, List.setIfInBounds_toArray, List.set_cons_zero, List.set_cons_succ])
            refine wpAnyH_take (i := 3) (oi := ⟨some 73, Op.move (Operand.tmp 14), 32, _, _, none⟩) (v := ?vb3) rfl (by kernel_rfl) (by kernel_rfl) (by kernel_rfl) (fun _ _ _ h => h) (Or.inl ⟨by rfl, ?hb3⟩) hS0 ?rb3
            case hb3 => (intro wz hSw; go_simp <;> with_reducible rfl)
            (try simp only [Act.put, List.setIfInBounds_toArray, List.set_cons_zero, List.set_cons_succ])
            refine wpAnyH_take (i := 4) (oi := ⟨some 74, Op.move (Operand.tmp 15), 3, _, _, none⟩) (v := ?vb4) rfl (by kernel_rfl) (by kernel_rfl) (by kernel_rfl) (fun _ _ _ h => h) (Or.inl ⟨by rfl, ?hb4⟩) hS0 ?rb4
            case hb4 => (intro wz hSw; go_simp <;> with_reducible rfl)
            (try simp only [Act.put, List.setIfInBounds_toArray, List.set_cons_zero, List.set_cons_succ])
            refine wpAnyH_take (i := 5) (oi := ⟨some 75, Op.indexAddr 32 (Operand.tmp 73) (Operand.tmp 74), 0, _, _, none⟩) (v := ?vb5) rfl (by kernel_rfl) (by kernel_rfl) (by kernel_rfl) (fun _ _ _ h => h) (Or.inl ⟨by rfl, ?hb5⟩) hS0 ?rb5
            case hb5 => (intro wz hSw; go_simp <;> with_reducible rfl)
            (try simp only [Act.put, List.setIfInBounds_toArray, List.set_cons_zero, List.set_cons_succ])
            refine wpAnyH_take (i := 6) (oi := ⟨some 76, Op.fieldAddr 42 (Operand.tmp 75) 2, 0, _, _, none⟩) (v := ?vb6) rfl (by kernel_rfl) (by kernel_rfl) (by kernel_rfl) (fun _ _ _ h => h) (Or.inl ⟨by rfl, ?hb6⟩) hS0 ?rb6
            case hb6 => (intro wz hSw; go_simp <;> with_reducible rfl)
            (try simp only [Act.put, List.setIfInBounds_toArray, List.set_cons_zero, List.set_cons_succ])
            refine wpAnyH_ready (rs := [7]) (by kernel_rfl) (by simp) ?_
            refine AllReadyH.cons (o := ⟨some 77, Op.load 3 (Operand.tmp 76), 3, _, _, none⟩) rfl (fun K hK => ?_) AllReadyH.nil
            have zc := HLd.out
            go_simp
            refine hK.out _ _ hS0 (fun _ => ?_)
            clear hK K
            (try simp only [Act.put, List.setIfInBounds_toArray, List.set_cons_zero, List.set_cons_succ])
            refine wpAnyH_ready (rs := [8]) (by kernel_rfl) (by simp) ?_
            refine AllReadyH.cons (o := ⟨some 78, Op.call { callee := Callee.value (Operand.func 36), args := #[Operand.tmp 72, Operand.tmp 77], argTypes := #[54, 3] }, 3, _, _, none⟩) rfl (fun K hK => ?_) AllReadyH.nil
            go_simp
            ((with_reducible refine (left15_any a (stkL a x.stacks) v0 HNa.out hF2).mono ?_); rintro e v1 ⟨rfl, hBv⟩; have hS1 := hkeep1 hBv HLs.out hS0; have HO8 := Lib.hid (HO7.out.of hBv); have HV8 : Hid (Below w.heap.size w v1) := Lib.hid (HV7.out.trans (hBv.mono HV7.out.size)); obtain ⟨mb8, hmb8, _, hmbl8, hmc8, hmf8⟩ := HO8.out.at' HM2.out; injection hmb8 with e8; injection e8 with e8; subst e8; have HLd8 := Lib.hid (cellsAc (o := k * 6) hmc8).2.2.2.2.2; have HFz8 := Lib.hid hmf8; have hS8 : (v1.setCell ⟨mb, k * 6 + 5, none⟩ (.int .i64 (fullL a (stkL a x.stacks)))).heap[w1.heap.size]? = some (oAu a) := (Below.heap_setCell v1 _ _ _ (by show w1.heap.size ≠ mb; exact HNe.out)).trans hS1; clear hmc8 hmf8)
            refine hK.out _ _ hS1 (fun _ => ?_)
            clear hK K
            (try simp only [Act.put, List.setIfInBounds_toArray, List.set_cons_zero, List.set_cons_succ])
            refine wpAnyH_take (i := 9) (oi := ⟨some 79, Op.indexAddr 32 (Operand.tmp 70) (Operand.tmp 71), 0, _, _, none⟩) (v := ?vb9) rfl (by kernel_rfl) (by kernel_rfl) (by kernel_rfl) (fun _ _ _ h => h) (Or.inl ⟨by rfl, ?hb9⟩) hS1 ?rb9
            case hb9 => (intro wz hSw; go_simp <;> with_reducible rfl)
            (try simp only [Act.put, List.setIfInBounds_toArray, List.set_cons_zero, List.set_cons_succ])
            refine wpAnyH_take (i := 10) (oi := ⟨some 80, Op.fieldAddr 42 (Operand.tmp 79) 5, 0, _, _, none⟩) (v := ?vb10) rfl (by kernel_rfl) (by kernel_rfl) (by kernel_rfl) (fun _ _ _ h => h) (Or.inl ⟨by rfl, ?hb10⟩) hS1 ?rb10
            case hb10 => (intro wz hSw; go_simp <;> with_reducible rfl)
            (try simp only [Act.put, List.setIfInBounds_toArray, List.set_cons_zero, List.set_cons_succ])
            refine wpAnyH_ready (rs := [11]) (by kernel_rfl) (by simp) ?_
            refine AllReadyH.cons (o := ⟨none, Op.store 3 (Operand.tmp 80) (Operand.tmp 78), 0, _, _, none⟩) rfl (fun K hK => ?_) AllReadyH.nil
            have zc := HLd8.out; have zf := HFz8.out
            go_simp
            refine hK.out _ _ hS8 (fun _ => ?_)
            clear hK K
            (try simp only [Act.put, List.setIfInBounds_toArray, List.set_cons_zero, List.set_cons_succ])
            refine wpAnyH_done (by kernel_rfl) ?_ _
            refine NoPanic.normal ?_
            clear hS1 hS0 hS8 hBv
            have HO9 : Hid (OW ac (v1.setCell ⟨mb, k * 6 + 5, none⟩ (.int .i64 (fullL a (stkL a x.stacks)))) w2.heap.size (.slice (some ⟨mb, 0, none⟩) l.length c3) (((l.set k (⟨x.aura, x.source, stkL a x.stacks, x.untl, x.nxt, x.left⟩ : Ac)).set k (⟨x.aura, x.source, stkL a x.stacks, held (now + a.ticks), x.nxt, x.left⟩ : Ac)).set k (⟨x.aura, x.source, stkL a x.stacks, held (now + a.ticks), x.nxt, fullL a (stkL a x.stacks)⟩ : Ac))) := Lib.hid (HO8.out.poke rfl HM2.out (j := 5) (by decide) rfl)
            go_wp2
            go_ret2
            have hfin : ((l.set k (⟨x.aura, x.source, stkL a x.stacks, x.untl, x.nxt, x.left⟩ : Ac)).set k (⟨x.aura, x.source, stkL a x.stacks, held (now + a.ticks), x.nxt, x.left⟩ : Ac)).set k (⟨x.aura, x.source, stkL a x.stacks, held (now + a.ticks), x.nxt, fullL a (stkL a x.stacks)⟩ : Ac) = l.set k (againL a now x) := by simp [againL]
            have HO10 := HO9.out; rw [hfin] at HO10
            refine ⟨some ⟨mb, 0, none⟩, c3, ret_ap ?_ ?_, Lib.hid ?_, ?_⟩
            · rw [show apL c.au l id src now = l.set k (againL a now x) by rw [(ap_again HY.out HPI.out HXk.out).2, HAE.out]]; simp
            · rw [(ap_again (now := now) HY.out HPI.out HXk.out).1]
            · rw [show apL c.au l id src now = l.set k (againL a now x) by rw [(ap_again HY.out HPI.out HXk.out).2, HAE.out]]; have h9 := HO10.mono HV3.out.size; simpa using h9
            · exact HV8.out.setCell (Nat.le_trans HV3.out.size HMB.out) _
          · have t2' : (x.source == src) = false := by simpa using t2
            have HF2 := Lib.hid (take_no HXk.out (P := isAc id src) (by unfold isAc; simp [t2]) HF.out)
            clear t1 t2 HLd HFz
            go_wp2
            go_roundg (l.length - (k + 1))
            case measure => omega
            case rel => exact ⟨k + 1, by omega, rfl, by go_num, HF2, Lib.hid rfl⟩
        · have t1' : (x.aura == id) = false := by simpa using t1
          have HF2 := Lib.hid (take_no HXk.out (P := isAc id src) (by unfold isAc; simp [t1]) HF.out)
          clear t1 HLd HFz
          go_wp2
          go_roundg (l.length - (k + 1))
          case measure => omega
          case rel => exact ⟨k + 1, by omega, rfl, by go_num, HF2, Lib.hid rfl⟩
      · have hklt : decide ((k : Int) < l.length) = false := by simp; omega
        have HPI : Hid (plI l id src = -1) := Lib.hid (idx_miss (take_done (by omega) HF.out))
        clear hk
        by_cases h16 : (16 : Int) ≤ l.length
        · have H16 : Hid (16 ≤ l.length) := Lib.hid (by omega)
          go_wp2
          go_ret2
          exact apA_nil (ap_full (now := now) HY.out (by rw [HPI.out]; omega) H16.out).1 (ap_full HY.out (by rw [HPI.out]; omega) H16.out).2 HV4.out
        · have h16' : decide ((16 : Int) ≤ l.length) = false := by simpa using h16
          have H16 : Hid (¬ 16 ≤ l.length) := Lib.hid (by omega)
          clear h16
          go_wp2
          clear u3
          refine wp_region_noPanic ?_
          refine wp_region_held_drew (S := fun w' => Below w3.heap.size w3 w') (by kernel_rfl) ((Below.refl _ _).drew) (fun hS0 => ?_)
          generalize w3.drew = v0 at hS0 ⊢
          refine wpAnyH_take (i := 0) (oi := ⟨some 85, Op.move (Operand.tmp 2), 3, _, _, none⟩) (v := ?vn0) rfl (by kernel_rfl) (by kernel_rfl) (by kernel_rfl) (fun _ _ _ h => h) (Or.inl ⟨by rfl, ?hn0⟩) hS0 ?rn0
          case hn0 => (intro wz hSw; go_simp <;> with_reducible rfl)
          (try simp only [Act.put, List.setIfInBounds_toArray, List.set_cons_zero, List.set_cons_succ])
          refine wpAnyH_take (i := 1) (oi := ⟨some 86, Op.move (Operand.tmp 3), 3, _, _, none⟩) (v := ?vn1) rfl (by kernel_rfl) (by kernel_rfl) (by kernel_rfl) (fun _ _ _ h => h) (Or.inl ⟨by rfl, ?hn1⟩) hS0 ?rn1
          case hn1 => (intro wz hSw; go_simp <;> with_reducible rfl)
          (try simp only [Act.put, List.setIfInBounds_toArray, List.set_cons_zero, List.set_cons_succ])
          refine wpAnyH_take (i := 2) (oi := ⟨some 87, Op.move (Operand.tmp 4), 3, _, _, none⟩) (v := ?vn2) rfl (by kernel_rfl) (by kernel_rfl) (by kernel_rfl) (fun _ _ _ h => h) (Or.inl ⟨by rfl, ?hn2⟩) hS0 ?rn2
          case hn2 => (intro wz hSw; go_simp <;> with_reducible rfl)
          (try simp only [Act.put, List.setIfInBounds_toArray, List.set_cons_zero, List.set_cons_succ])
          refine wpAnyH_take (i := 3) (oi := ⟨some 88, Op.fieldAddr 54 (Operand.tmp 12) 2, 0, _, _, none⟩) (v := ?vn3) rfl (by kernel_rfl) (by kernel_rfl) (by kernel_rfl) (fun _ _ _ h => h) (Or.inl ⟨by rfl, ?hn3⟩) hS0 ?rn3
          case hn3 => (intro wz hSw; go_simp <;> with_reducible rfl)
          (try simp only [Act.put, List.setIfInBounds_toArray, List.set_cons_zero, List.set_cons_succ])
          refine wpAnyH_take (i := 4) (oi := ⟨some 89, Op.load 3 (Operand.tmp 88), 3, _, _, none⟩) (v := ?vn4) rfl (by kernel_rfl) (by kernel_rfl) (by kernel_rfl) (fun _ _ _ h => h) (Or.inl ⟨by rfl, ?hn4⟩) hS0 ?rn4
          case hn4 => (intro wz hSw; have u9 := cellOf1 (hkeep1 hSw hs3 HBA3.out); go_simp <;> with_reducible rfl)
          (try simp only [Act.put, List.setIfInBounds_toArray, List.set_cons_zero, List.set_cons_succ])
          refine wpAnyH_take (i := 6) (oi := ⟨some 91, Op.load 54 (Operand.tmp 12), 54, _, _, none⟩) (v := ?vn6) rfl (by kernel_rfl) (by kernel_rfl) (by kernel_rfl) (fun _ _ _ h => h) (Or.inl ⟨by rfl, ?hn6⟩) hS0 ?rn6
          case hn6 => (intro wz hSw; have u9 := cellOf1 (hkeep1 hSw hs3 HBA3.out); go_simp <;> with_reducible rfl)
          (try simp only [Act.put, List.setIfInBounds_toArray, List.set_cons_zero, List.set_cons_succ])
          refine wpAnyH_ready (rs := [5, 9]) (by kernel_rfl) (by simp) ?_
          refine AllReadyH.cons (o := ⟨some 90, Op.call { callee := Callee.value (Operand.func 35), args := #[Operand.tmp 87, Operand.tmp 89], argTypes := #[3, 3] }, 3, _, _, none⟩) rfl (fun K hK => ?_) (AllReadyH.cons (o := ⟨some 16, Op.alloc 42, 0, _, _, none⟩) rfl (fun K hK => ?_) AllReadyH.nil)
          · go_simp
            ((with_reducible refine (radd_any _ _ _ hno hFt).mono ?_); rintro e vx ⟨rfl, rfl⟩)
            refine hK.out _ _ hS0 (fun _ => ?_)
            clear hK K
            (try simp only [Act.put, List.setIfInBounds_toArray, List.set_cons_zero, List.set_cons_succ])
            refine wpAnyH_ready (rs := [7, 9]) (by kernel_rfl) (by simp) ?_
            refine AllReadyH.cons (o := ⟨some 92, Op.call { callee := Callee.value (Operand.func 36), args := #[Operand.tmp 91, Operand.const (Value.int IntKind.i64 1)], argTypes := #[54, 3] }, 3, _, _, none⟩) rfl (fun K hK => ?_) (AllReadyH.cons (o := ⟨some 16, Op.alloc 42, 0, _, _, none⟩) rfl (fun K hK => ?_) AllReadyH.nil)
            · go_simp
              ((with_reducible refine (left15_any a 1 _ HNa.out fits1).mono ?_); rintro e v1 ⟨rfl, hBv⟩; have hS1 : Below w3.heap.size w3 v1 := hS0.trans (hBv.mono hS0.size))
              refine hK.out _ _ hS1 (fun _ => ?_)
              clear hK K
              (try simp only [Act.put, List.setIfInBounds_toArray, List.set_cons_zero, List.set_cons_succ])
              refine wpAnyH_take (i := 8) (oi := ⟨some 93, Op.build 42 #[(0, Operand.tmp 85), (1, Operand.tmp 86), (2, Operand.const (Value.int IntKind.i64 1)), (3, Operand.tmp 90), (5, Operand.tmp 92)], 42, _, _, none⟩) (v := ?vnb5b78) rfl (by kernel_rfl) (by kernel_rfl) (by kernel_rfl) (fun _ _ _ h => h) (Or.inl ⟨by rfl, ?hnb5b78⟩) hS1 ?rnb5b78
              case hnb5b78 => (intro wz hSw; go_simp <;> with_reducible rfl)
              (try simp only [Act.put, List.setIfInBounds_toArray, List.set_cons_zero, List.set_cons_succ])
              refine wpAnyH_ready (rs := [9]) (by kernel_rfl) (by simp) ?_
              refine AllReadyH.cons (o := ⟨some 16, Op.alloc 42, 0, _, _, none⟩) rfl (fun K hK => ?_) AllReadyH.nil
              go_simp
              have HP1 : Hid ((v1.alloc zcAc).heap[v1.heap.size]? = some zcAc) := Lib.hid (heap_alloc_new v1 zcAc); have hSa : Below w3.heap.size w3 (v1.alloc zcAc) := hS1.alloc hS1.size _
              refine hK.out _ _ hSa (fun _ => ?_)
              clear hK K
              (try simp only [Act.put, List.setIfInBounds_toArray, List.set_cons_zero, List.set_cons_succ])
              refine wpAnyH_ready (rs := [10]) (by kernel_rfl) (by simp) ?_
              refine AllReadyH.cons (o := ⟨none, Op.store 42 (Operand.tmp 16) (Operand.tmp 93), 0, _, _, none⟩) rfl (fun K hK => ?_) AllReadyH.nil
              have z1 := cellOf1 HP1.out; have y1 := frozOf1 HP1.out; have l1 := lt_blk1 HP1.out
              go_simp
              have hS4 : Below w3.heap.size w3 (v1.alloc (oAc (⟨id, src, 1, held (now + a.ticks), 0, fullL a 1⟩ : Ac))) := hS1.alloc hS1.size _; have HP4 : Hid ((v1.alloc (oAc (⟨id, src, 1, held (now + a.ticks), 0, fullL a 1⟩ : Ac))).heap[v1.heap.size]? = some (oAc (⟨id, src, 1, held (now + a.ticks), 0, fullL a 1⟩ : Ac))) := Lib.hid (heap_alloc_new v1 (oAc (⟨id, src, 1, held (now + a.ticks), 0, fullL a 1⟩ : Ac)))
              refine hK.out _ _ hS4 (fun _ => ?_)
              clear hK K
              (try simp only [Act.put, List.setIfInBounds_toArray, List.set_cons_zero, List.set_cons_succ])
              refine wpAnyH_done (by kernel_rfl) ?_ _
              refine NoPanic.normal ?_
              have hp4 : w3.heap.size ≤ v1.heap.size := hS1.size
              have HV3b := Lib.hid hS4
              clear hS4
              generalize (v1.alloc (oAc (⟨id, src, 1, held (now + a.ticks), 0, fullL a 1⟩ : Ac))) = v3 at HP4 HV3b ⊢
              generalize v1.heap.size = p at HP4 hp4 ⊢
              have hpl := lt_blk1 HP4.out
              have HBA4 := Lib.hid (hkeep1 HV3b.out hs3 HBA3.out)
              have q9 := cellOf1 HBA4.out; have q8 := lt_blk1 HBA4.out
              have r9 := cellOf1 HP4.out; have r8 := frozOf1 HP4.out
              by_cases he : a.every = 0
              · have he' : (a.every == 0) = true := by simpa using he
                have HE := Lib.hid he
                clear he
                have HT5 := Lib.hid (HO3.out.of HV3b.out)
                have HT6 := Lib.hid (HT5.out.of (below_box v3 (oAc (⟨id, src, 1, held (now + a.ticks), 0, fullL a 1⟩ : Ac))))
                have HRW : Hid (RW ac (v3.alloc (oAc (⟨id, src, 1, held (now + a.ticks), 0, fullL a 1⟩ : Ac))) (v3.heap.size + 1) (some ⟨v3.heap.size, 0, none⟩) [(⟨id, src, 1, held (now + a.ticks), 0, fullL a 1⟩ : Ac)]) := Lib.hid (rw_at ac _ _ _ _ _ rfl rfl (rfl))
                have HLL : Hid (l.length + [(⟨id, src, 1, held (now + a.ticks), 0, fullL a 1⟩ : Ac)].length ≤ 1000000) := Lib.hid (by simp; omega)
                have HW6 : Hid (w2.heap.size ≤ (v3.alloc (oAc (⟨id, src, 1, held (now + a.ticks), 0, fullL a 1⟩ : Ac))).heap.size) := Lib.hid (Nat.le_trans HW23.out (Nat.le_trans HV3b.out.size (by simp)))
                go_wp2_with (first | (at_builtin; refine wpList_app ac rfl 32 rfl (.tmp 102) (.tmp 104) rfl w2.heap.size (v3.heap.size + 1) (.slice A3 l.length c3) l [(⟨id, src, 1, held (now + a.ticks), 0, fullL a 1⟩ : Ac)] (some ⟨v3.heap.size, 0, none⟩) 1 1 rfl rfl rfl HT6.out HRW.out HLL.out HW6.out ?_; intro A5 c5 w9 lm HLM HO6 HS6 HB6))
                go_ret2
                have hfin : apL c.au l id src now = lm := by rw [(ap_new HY.out (by rw [HPI.out]; omega) H16.out).2, HAE.out, HLM.out]; simp [newL, firstT, HE.out]
                have HB9 : Below w.heap.size w w9 := ((HV4.out.trans (HV3b.out.mono HV4.out.size)).alloc (Nat.le_trans HV4.out.size HV3b.out.size) _).grown HS6.out (Nat.le_trans HV3.out.size HW6.out) (fun j hj => Nat.le_trans HV3.out.size (HT5.out.lt hj).1)
                exact ⟨A5, c5, ret_ap (by rw [hfin]) (ap_new (now := now) HY.out (by rw [HPI.out]; omega) H16.out).1.symm, Lib.hid (by rw [hfin]; exact HO6.out.mono HV3.out.size), HB9⟩
              · have he' : (a.every == 0) = false := by simpa using he
                have HE := Lib.hid he
                clear he
                have HV4b : Hid (Below w3.heap.size w3 (v3.setCell ⟨p, 4, none⟩ (.int .i64 (held (now + a.every))))) := Lib.hid (HV3b.out.setCell (p := ⟨p, 4, none⟩) hp4 _)
                have HT5 := Lib.hid (HO3.out.of HV4b.out)
                have HT6 := Lib.hid (HT5.out.of (below_box (v3.setCell ⟨p, 4, none⟩ (.int .i64 (held (now + a.every)))) (oAc (⟨id, src, 1, held (now + a.ticks), held (now + a.every), fullL a 1⟩ : Ac))))
                have HRW : Hid (RW ac ((v3.setCell ⟨p, 4, none⟩ (.int .i64 (held (now + a.every)))).alloc (oAc (⟨id, src, 1, held (now + a.ticks), held (now + a.every), fullL a 1⟩ : Ac))) (v3.heap.size + 1) (some ⟨v3.heap.size, 0, none⟩) [(⟨id, src, 1, held (now + a.ticks), held (now + a.every), fullL a 1⟩ : Ac)]) := Lib.hid (rw_at ac _ _ _ _ _ rfl rfl (by simp [World.setCell]))
                have HLL : Hid (l.length + [(⟨id, src, 1, held (now + a.ticks), held (now + a.every), fullL a 1⟩ : Ac)].length ≤ 1000000) := Lib.hid (by simp; omega)
                have HW6 : Hid (w2.heap.size ≤ ((v3.setCell ⟨p, 4, none⟩ (.int .i64 (held (now + a.every)))).alloc (oAc (⟨id, src, 1, held (now + a.ticks), held (now + a.every), fullL a 1⟩ : Ac))).heap.size) := Lib.hid (Nat.le_trans HW23.out (Nat.le_trans HV4b.out.size (by simp)))
                go_wp2_with (first | ((with_reducible refine (radd_any _ _ _ hno hFe).mono ?_); rintro e v5 ⟨rfl, rfl⟩) | (at_builtin; refine wpList_app ac rfl 32 rfl (.tmp 102) (.tmp 104) rfl w2.heap.size (v3.heap.size + 1) (.slice A3 l.length c3) l [(⟨id, src, 1, held (now + a.ticks), held (now + a.every), fullL a 1⟩ : Ac)] (some ⟨v3.heap.size, 0, none⟩) 1 1 rfl rfl rfl HT6.out HRW.out HLL.out HW6.out ?_; intro A5 c5 w9 lm HLM HO6 HS6 HB6))
                go_ret2
                have hfin : apL c.au l id src now = lm := by rw [(ap_new HY.out (by rw [HPI.out]; omega) H16.out).2, HAE.out, HLM.out]; simp [newL, firstT, HE.out]
                have HB9 : Below w.heap.size w w9 := ((HV4.out.trans (HV4b.out.mono HV4.out.size)).alloc (Nat.le_trans HV4.out.size HV4b.out.size) _).grown HS6.out (Nat.le_trans HV3.out.size HW6.out) (fun j hj => Nat.le_trans HV3.out.size (HT5.out.lt hj).1)
                exact ⟨A5, c5, ret_ap (by rw [hfin]) (ap_new (now := now) HY.out (by rw [HPI.out]; omega) H16.out).1.symm, Lib.hid (by rw [hfin]; exact HO6.out.mono HV3.out.size), HB9⟩
            · go_simp
              have HP1 : Hid ((v0.alloc zcAc).heap[v0.heap.size]? = some zcAc) := Lib.hid (heap_alloc_new v0 zcAc); have hSa : Below w3.heap.size w3 (v0.alloc zcAc) := hS0.alloc hS0.size _
              refine hK.out _ _ hSa (fun _ => ?_)
              clear hK K
              (try simp only [Act.put, List.setIfInBounds_toArray, List.set_cons_zero, List.set_cons_succ])
              refine wpAnyH_ready (rs := [7]) (by kernel_rfl) (by simp) ?_
              refine AllReadyH.cons (o := ⟨some 92, Op.call { callee := Callee.value (Operand.func 36), args := #[Operand.tmp 91, Operand.const (Value.int IntKind.i64 1)], argTypes := #[54, 3] }, 3, _, _, none⟩) rfl (fun K hK => ?_) AllReadyH.nil
              go_simp
              ((with_reducible refine (left15_any a 1 _ HNa.out fits1).mono ?_); rintro e v1 ⟨rfl, hBv⟩; have hS1 : Below w3.heap.size w3 v1 := hSa.trans (hBv.mono hSa.size); have HP1 : Hid (v1.heap[v0.heap.size]? = some zcAc) := Lib.hid (hkeep1 hBv (by simp) (heap_alloc_new v0 zcAc)))
              refine hK.out _ _ hS1 (fun _ => ?_)
              clear hK K
              (try simp only [Act.put, List.setIfInBounds_toArray, List.set_cons_zero, List.set_cons_succ])
              refine wpAnyH_take (i := 8) (oi := ⟨some 93, Op.build 42 #[(0, Operand.tmp 85), (1, Operand.tmp 86), (2, Operand.const (Value.int IntKind.i64 1)), (3, Operand.tmp 90), (5, Operand.tmp 92)], 42, _, _, none⟩) (v := ?vnb5b98) rfl (by kernel_rfl) (by kernel_rfl) (by kernel_rfl) (fun _ _ _ h => h) (Or.inl ⟨by rfl, ?hnb5b98⟩) hS1 ?rnb5b98
              case hnb5b98 => (intro wz hSw; go_simp <;> with_reducible rfl)
              (try simp only [Act.put, List.setIfInBounds_toArray, List.set_cons_zero, List.set_cons_succ])
              refine wpAnyH_ready (rs := [10]) (by kernel_rfl) (by simp) ?_
              refine AllReadyH.cons (o := ⟨none, Op.store 42 (Operand.tmp 16) (Operand.tmp 93), 0, _, _, none⟩) rfl (fun K hK => ?_) AllReadyH.nil
              have z1 := cellOf1 HP1.out; have y1 := frozOf1 HP1.out; have l1 := lt_blk1 HP1.out
              go_simp
              have hS4 : Below w3.heap.size w3 ((((((v1.setCell ⟨v0.heap.size, 0, none⟩ (.int .i64 id)).setCell ⟨v0.heap.size, 1, none⟩ (.int .i64 src)).setCell ⟨v0.heap.size, 2, none⟩ (.int .i64 1)).setCell ⟨v0.heap.size, 3, none⟩ (.int .i64 (held (now + a.ticks)))).setCell ⟨v0.heap.size, 4, none⟩ (.int .i64 0)).setCell ⟨v0.heap.size, 5, none⟩ (.int .i64 (fullL a 1))) := below_setCells v0.heap.size hS0.size [.int .i64 id, .int .i64 src, .int .i64 1, .int .i64 (held (now + a.ticks)), .int .i64 0, .int .i64 (fullL a 1)] 0 _ hS1; have HP4 : Hid (((((((v1.setCell ⟨v0.heap.size, 0, none⟩ (.int .i64 id)).setCell ⟨v0.heap.size, 1, none⟩ (.int .i64 src)).setCell ⟨v0.heap.size, 2, none⟩ (.int .i64 1)).setCell ⟨v0.heap.size, 3, none⟩ (.int .i64 (held (now + a.ticks)))).setCell ⟨v0.heap.size, 4, none⟩ (.int .i64 0)).setCell ⟨v0.heap.size, 5, none⟩ (.int .i64 (fullL a 1))).heap[v0.heap.size]? = some (oAc (⟨id, src, 1, held (now + a.ticks), 0, fullL a 1⟩ : Ac))) := Lib.hid (put6 HP1.out _ _ _ _ _ _)
              refine hK.out _ _ hS4 (fun _ => ?_)
              clear hK K
              (try simp only [Act.put, List.setIfInBounds_toArray, List.set_cons_zero, List.set_cons_succ])
              refine wpAnyH_done (by kernel_rfl) ?_ _
              refine NoPanic.normal ?_
              have hp4 : w3.heap.size ≤ v0.heap.size := hS0.size
              have HV3b := Lib.hid hS4
              clear hS4
              generalize ((((((v1.setCell ⟨v0.heap.size, 0, none⟩ (.int .i64 id)).setCell ⟨v0.heap.size, 1, none⟩ (.int .i64 src)).setCell ⟨v0.heap.size, 2, none⟩ (.int .i64 1)).setCell ⟨v0.heap.size, 3, none⟩ (.int .i64 (held (now + a.ticks)))).setCell ⟨v0.heap.size, 4, none⟩ (.int .i64 0)).setCell ⟨v0.heap.size, 5, none⟩ (.int .i64 (fullL a 1))) = v3 at HP4 HV3b ⊢
              generalize v0.heap.size = p at HP4 hp4 ⊢
              have hpl := lt_blk1 HP4.out
              have HBA4 := Lib.hid (hkeep1 HV3b.out hs3 HBA3.out)
              have q9 := cellOf1 HBA4.out; have q8 := lt_blk1 HBA4.out
              have r9 := cellOf1 HP4.out; have r8 := frozOf1 HP4.out
              by_cases he : a.every = 0
              · have he' : (a.every == 0) = true := by simpa using he
                have HE := Lib.hid he
                clear he
                have HT5 := Lib.hid (HO3.out.of HV3b.out)
                have HT6 := Lib.hid (HT5.out.of (below_box v3 (oAc (⟨id, src, 1, held (now + a.ticks), 0, fullL a 1⟩ : Ac))))
                have HRW : Hid (RW ac (v3.alloc (oAc (⟨id, src, 1, held (now + a.ticks), 0, fullL a 1⟩ : Ac))) (v3.heap.size + 1) (some ⟨v3.heap.size, 0, none⟩) [(⟨id, src, 1, held (now + a.ticks), 0, fullL a 1⟩ : Ac)]) := Lib.hid (rw_at ac _ _ _ _ _ rfl rfl (rfl))
                have HLL : Hid (l.length + [(⟨id, src, 1, held (now + a.ticks), 0, fullL a 1⟩ : Ac)].length ≤ 1000000) := Lib.hid (by simp; omega)
                have HW6 : Hid (w2.heap.size ≤ (v3.alloc (oAc (⟨id, src, 1, held (now + a.ticks), 0, fullL a 1⟩ : Ac))).heap.size) := Lib.hid (Nat.le_trans HW23.out (Nat.le_trans HV3b.out.size (by simp)))
                go_wp2_with (first | (at_builtin; refine wpList_app ac rfl 32 rfl (.tmp 102) (.tmp 104) rfl w2.heap.size (v3.heap.size + 1) (.slice A3 l.length c3) l [(⟨id, src, 1, held (now + a.ticks), 0, fullL a 1⟩ : Ac)] (some ⟨v3.heap.size, 0, none⟩) 1 1 rfl rfl rfl HT6.out HRW.out HLL.out HW6.out ?_; intro A5 c5 w9 lm HLM HO6 HS6 HB6))
                go_ret2
                have hfin : apL c.au l id src now = lm := by rw [(ap_new HY.out (by rw [HPI.out]; omega) H16.out).2, HAE.out, HLM.out]; simp [newL, firstT, HE.out]
                have HB9 : Below w.heap.size w w9 := ((HV4.out.trans (HV3b.out.mono HV4.out.size)).alloc (Nat.le_trans HV4.out.size HV3b.out.size) _).grown HS6.out (Nat.le_trans HV3.out.size HW6.out) (fun j hj => Nat.le_trans HV3.out.size (HT5.out.lt hj).1)
                exact ⟨A5, c5, ret_ap (by rw [hfin]) (ap_new (now := now) HY.out (by rw [HPI.out]; omega) H16.out).1.symm, Lib.hid (by rw [hfin]; exact HO6.out.mono HV3.out.size), HB9⟩
              · have he' : (a.every == 0) = false := by simpa using he
                have HE := Lib.hid he
                clear he
                have HV4b : Hid (Below w3.heap.size w3 (v3.setCell ⟨p, 4, none⟩ (.int .i64 (held (now + a.every))))) := Lib.hid (HV3b.out.setCell (p := ⟨p, 4, none⟩) hp4 _)
                have HT5 := Lib.hid (HO3.out.of HV4b.out)
                have HT6 := Lib.hid (HT5.out.of (below_box (v3.setCell ⟨p, 4, none⟩ (.int .i64 (held (now + a.every)))) (oAc (⟨id, src, 1, held (now + a.ticks), held (now + a.every), fullL a 1⟩ : Ac))))
                have HRW : Hid (RW ac ((v3.setCell ⟨p, 4, none⟩ (.int .i64 (held (now + a.every)))).alloc (oAc (⟨id, src, 1, held (now + a.ticks), held (now + a.every), fullL a 1⟩ : Ac))) (v3.heap.size + 1) (some ⟨v3.heap.size, 0, none⟩) [(⟨id, src, 1, held (now + a.ticks), held (now + a.every), fullL a 1⟩ : Ac)]) := Lib.hid (rw_at ac _ _ _ _ _ rfl rfl (by simp [World.setCell]))
                have HLL : Hid (l.length + [(⟨id, src, 1, held (now + a.ticks), held (now + a.every), fullL a 1⟩ : Ac)].length ≤ 1000000) := Lib.hid (by simp; omega)
                have HW6 : Hid (w2.heap.size ≤ ((v3.setCell ⟨p, 4, none⟩ (.int .i64 (held (now + a.every)))).alloc (oAc (⟨id, src, 1, held (now + a.ticks), held (now + a.every), fullL a 1⟩ : Ac))).heap.size) := Lib.hid (Nat.le_trans HW23.out (Nat.le_trans HV4b.out.size (by simp)))
                go_wp2_with (first | ((with_reducible refine (radd_any _ _ _ hno hFe).mono ?_); rintro e v5 ⟨rfl, rfl⟩) | (at_builtin; refine wpList_app ac rfl 32 rfl (.tmp 102) (.tmp 104) rfl w2.heap.size (v3.heap.size + 1) (.slice A3 l.length c3) l [(⟨id, src, 1, held (now + a.ticks), held (now + a.every), fullL a 1⟩ : Ac)] (some ⟨v3.heap.size, 0, none⟩) 1 1 rfl rfl rfl HT6.out HRW.out HLL.out HW6.out ?_; intro A5 c5 w9 lm HLM HO6 HS6 HB6))
                go_ret2
                have hfin : apL c.au l id src now = lm := by rw [(ap_new HY.out (by rw [HPI.out]; omega) H16.out).2, HAE.out, HLM.out]; simp [newL, firstT, HE.out]
                have HB9 : Below w.heap.size w w9 := ((HV4.out.trans (HV4b.out.mono HV4.out.size)).alloc (Nat.le_trans HV4.out.size HV4b.out.size) _).grown HS6.out (Nat.le_trans HV3.out.size HW6.out) (fun j hj => Nat.le_trans HV3.out.size (HT5.out.lt hj).1)
                exact ⟨A5, c5, ret_ap (by rw [hfin]) (ap_new (now := now) HY.out (by rw [HPI.out]; omega) H16.out).1.symm, Lib.hid (by rw [hfin]; exact HO6.out.mono HV3.out.size), HB9⟩
          · go_simp
            have HP1 : Hid ((v0.alloc zcAc).heap[v0.heap.size]? = some zcAc) := Lib.hid (heap_alloc_new v0 zcAc); have hSa : Below w3.heap.size w3 (v0.alloc zcAc) := hS0.alloc hS0.size _
            refine hK.out _ _ hSa (fun _ => ?_)
            clear hK K
            (try simp only [Act.put, List.setIfInBounds_toArray, List.set_cons_zero, List.set_cons_succ])
            refine wpAnyH_ready (rs := [5]) (by kernel_rfl) (by simp) ?_
            refine AllReadyH.cons (o := ⟨some 90, Op.call { callee := Callee.value (Operand.func 35), args := #[Operand.tmp 87, Operand.tmp 89], argTypes := #[3, 3] }, 3, _, _, none⟩) rfl (fun K hK => ?_) AllReadyH.nil
            go_simp
            ((with_reducible refine (radd_any _ _ _ hno hFt).mono ?_); rintro e vx ⟨rfl, rfl⟩)
            refine hK.out _ _ hSa (fun _ => ?_)
            clear hK K
            (try simp only [Act.put, List.setIfInBounds_toArray, List.set_cons_zero, List.set_cons_succ])
            refine wpAnyH_ready (rs := [7]) (by kernel_rfl) (by simp) ?_
            refine AllReadyH.cons (o := ⟨some 92, Op.call { callee := Callee.value (Operand.func 36), args := #[Operand.tmp 91, Operand.const (Value.int IntKind.i64 1)], argTypes := #[54, 3] }, 3, _, _, none⟩) rfl (fun K hK => ?_) AllReadyH.nil
            go_simp
            ((with_reducible refine (left15_any a 1 _ HNa.out fits1).mono ?_); rintro e v1 ⟨rfl, hBv⟩; have hS1 : Below w3.heap.size w3 v1 := hSa.trans (hBv.mono hSa.size); have HP1 : Hid (v1.heap[v0.heap.size]? = some zcAc) := Lib.hid (hkeep1 hBv (by simp) (heap_alloc_new v0 zcAc)))
            refine hK.out _ _ hS1 (fun _ => ?_)
            clear hK K
            (try simp only [Act.put, List.setIfInBounds_toArray, List.set_cons_zero, List.set_cons_succ])
            refine wpAnyH_take (i := 8) (oi := ⟨some 93, Op.build 42 #[(0, Operand.tmp 85), (1, Operand.tmp 86), (2, Operand.const (Value.int IntKind.i64 1)), (3, Operand.tmp 90), (5, Operand.tmp 92)], 42, _, _, none⟩) (v := ?vnb98) rfl (by kernel_rfl) (by kernel_rfl) (by kernel_rfl) (fun _ _ _ h => h) (Or.inl ⟨by rfl, ?hnb98⟩) hS1 ?rnb98
            case hnb98 => (intro wz hSw; go_simp <;> with_reducible rfl)
            (try simp only [Act.put, List.setIfInBounds_toArray, List.set_cons_zero, List.set_cons_succ])
            refine wpAnyH_ready (rs := [10]) (by kernel_rfl) (by simp) ?_
            refine AllReadyH.cons (o := ⟨none, Op.store 42 (Operand.tmp 16) (Operand.tmp 93), 0, _, _, none⟩) rfl (fun K hK => ?_) AllReadyH.nil
            have z1 := cellOf1 HP1.out; have y1 := frozOf1 HP1.out; have l1 := lt_blk1 HP1.out
            go_simp
            have hS4 : Below w3.heap.size w3 ((((((v1.setCell ⟨v0.heap.size, 0, none⟩ (.int .i64 id)).setCell ⟨v0.heap.size, 1, none⟩ (.int .i64 src)).setCell ⟨v0.heap.size, 2, none⟩ (.int .i64 1)).setCell ⟨v0.heap.size, 3, none⟩ (.int .i64 (held (now + a.ticks)))).setCell ⟨v0.heap.size, 4, none⟩ (.int .i64 0)).setCell ⟨v0.heap.size, 5, none⟩ (.int .i64 (fullL a 1))) := below_setCells v0.heap.size hS0.size [.int .i64 id, .int .i64 src, .int .i64 1, .int .i64 (held (now + a.ticks)), .int .i64 0, .int .i64 (fullL a 1)] 0 _ hS1; have HP4 : Hid (((((((v1.setCell ⟨v0.heap.size, 0, none⟩ (.int .i64 id)).setCell ⟨v0.heap.size, 1, none⟩ (.int .i64 src)).setCell ⟨v0.heap.size, 2, none⟩ (.int .i64 1)).setCell ⟨v0.heap.size, 3, none⟩ (.int .i64 (held (now + a.ticks)))).setCell ⟨v0.heap.size, 4, none⟩ (.int .i64 0)).setCell ⟨v0.heap.size, 5, none⟩ (.int .i64 (fullL a 1))).heap[v0.heap.size]? = some (oAc (⟨id, src, 1, held (now + a.ticks), 0, fullL a 1⟩ : Ac))) := Lib.hid (put6 HP1.out _ _ _ _ _ _)
            refine hK.out _ _ hS4 (fun _ => ?_)
            clear hK K
            (try simp only [Act.put, List.setIfInBounds_toArray, List.set_cons_zero, List.set_cons_succ])
            refine wpAnyH_done (by kernel_rfl) ?_ _
            refine NoPanic.normal ?_
            have hp4 : w3.heap.size ≤ v0.heap.size := hS0.size
            have HV3b := Lib.hid hS4
            clear hS4
            generalize ((((((v1.setCell ⟨v0.heap.size, 0, none⟩ (.int .i64 id)).setCell ⟨v0.heap.size, 1, none⟩ (.int .i64 src)).setCell ⟨v0.heap.size, 2, none⟩ (.int .i64 1)).setCell ⟨v0.heap.size, 3, none⟩ (.int .i64 (held (now + a.ticks)))).setCell ⟨v0.heap.size, 4, none⟩ (.int .i64 0)).setCell ⟨v0.heap.size, 5, none⟩ (.int .i64 (fullL a 1))) = v3 at HP4 HV3b ⊢
            generalize v0.heap.size = p at HP4 hp4 ⊢
            have hpl := lt_blk1 HP4.out
            have HBA4 := Lib.hid (hkeep1 HV3b.out hs3 HBA3.out)
            have q9 := cellOf1 HBA4.out; have q8 := lt_blk1 HBA4.out
            have r9 := cellOf1 HP4.out; have r8 := frozOf1 HP4.out
            by_cases he : a.every = 0
            · have he' : (a.every == 0) = true := by simpa using he
              have HE := Lib.hid he
              clear he
              have HT5 := Lib.hid (HO3.out.of HV3b.out)
              have HT6 := Lib.hid (HT5.out.of (below_box v3 (oAc (⟨id, src, 1, held (now + a.ticks), 0, fullL a 1⟩ : Ac))))
              have HRW : Hid (RW ac (v3.alloc (oAc (⟨id, src, 1, held (now + a.ticks), 0, fullL a 1⟩ : Ac))) (v3.heap.size + 1) (some ⟨v3.heap.size, 0, none⟩) [(⟨id, src, 1, held (now + a.ticks), 0, fullL a 1⟩ : Ac)]) := Lib.hid (rw_at ac _ _ _ _ _ rfl rfl (rfl))
              have HLL : Hid (l.length + [(⟨id, src, 1, held (now + a.ticks), 0, fullL a 1⟩ : Ac)].length ≤ 1000000) := Lib.hid (by simp; omega)
              have HW6 : Hid (w2.heap.size ≤ (v3.alloc (oAc (⟨id, src, 1, held (now + a.ticks), 0, fullL a 1⟩ : Ac))).heap.size) := Lib.hid (Nat.le_trans HW23.out (Nat.le_trans HV3b.out.size (by simp)))
              go_wp2_with (first | (at_builtin; refine wpList_app ac rfl 32 rfl (.tmp 102) (.tmp 104) rfl w2.heap.size (v3.heap.size + 1) (.slice A3 l.length c3) l [(⟨id, src, 1, held (now + a.ticks), 0, fullL a 1⟩ : Ac)] (some ⟨v3.heap.size, 0, none⟩) 1 1 rfl rfl rfl HT6.out HRW.out HLL.out HW6.out ?_; intro A5 c5 w9 lm HLM HO6 HS6 HB6))
              go_ret2
              have hfin : apL c.au l id src now = lm := by rw [(ap_new HY.out (by rw [HPI.out]; omega) H16.out).2, HAE.out, HLM.out]; simp [newL, firstT, HE.out]
              have HB9 : Below w.heap.size w w9 := ((HV4.out.trans (HV3b.out.mono HV4.out.size)).alloc (Nat.le_trans HV4.out.size HV3b.out.size) _).grown HS6.out (Nat.le_trans HV3.out.size HW6.out) (fun j hj => Nat.le_trans HV3.out.size (HT5.out.lt hj).1)
              exact ⟨A5, c5, ret_ap (by rw [hfin]) (ap_new (now := now) HY.out (by rw [HPI.out]; omega) H16.out).1.symm, Lib.hid (by rw [hfin]; exact HO6.out.mono HV3.out.size), HB9⟩
            · have he' : (a.every == 0) = false := by simpa using he
              have HE := Lib.hid he
              clear he
              have HV4b : Hid (Below w3.heap.size w3 (v3.setCell ⟨p, 4, none⟩ (.int .i64 (held (now + a.every))))) := Lib.hid (HV3b.out.setCell (p := ⟨p, 4, none⟩) hp4 _)
              have HT5 := Lib.hid (HO3.out.of HV4b.out)
              have HT6 := Lib.hid (HT5.out.of (below_box (v3.setCell ⟨p, 4, none⟩ (.int .i64 (held (now + a.every)))) (oAc (⟨id, src, 1, held (now + a.ticks), held (now + a.every), fullL a 1⟩ : Ac))))
              have HRW : Hid (RW ac ((v3.setCell ⟨p, 4, none⟩ (.int .i64 (held (now + a.every)))).alloc (oAc (⟨id, src, 1, held (now + a.ticks), held (now + a.every), fullL a 1⟩ : Ac))) (v3.heap.size + 1) (some ⟨v3.heap.size, 0, none⟩) [(⟨id, src, 1, held (now + a.ticks), held (now + a.every), fullL a 1⟩ : Ac)]) := Lib.hid (rw_at ac _ _ _ _ _ rfl rfl (by simp [World.setCell]))
              have HLL : Hid (l.length + [(⟨id, src, 1, held (now + a.ticks), held (now + a.every), fullL a 1⟩ : Ac)].length ≤ 1000000) := Lib.hid (by simp; omega)
              have HW6 : Hid (w2.heap.size ≤ ((v3.setCell ⟨p, 4, none⟩ (.int .i64 (held (now + a.every)))).alloc (oAc (⟨id, src, 1, held (now + a.ticks), held (now + a.every), fullL a 1⟩ : Ac))).heap.size) := Lib.hid (Nat.le_trans HW23.out (Nat.le_trans HV4b.out.size (by simp)))
              go_wp2_with (first | ((with_reducible refine (radd_any _ _ _ hno hFe).mono ?_); rintro e v5 ⟨rfl, rfl⟩) | (at_builtin; refine wpList_app ac rfl 32 rfl (.tmp 102) (.tmp 104) rfl w2.heap.size (v3.heap.size + 1) (.slice A3 l.length c3) l [(⟨id, src, 1, held (now + a.ticks), held (now + a.every), fullL a 1⟩ : Ac)] (some ⟨v3.heap.size, 0, none⟩) 1 1 rfl rfl rfl HT6.out HRW.out HLL.out HW6.out ?_; intro A5 c5 w9 lm HLM HO6 HS6 HB6))
              go_ret2
              have hfin : apL c.au l id src now = lm := by rw [(ap_new HY.out (by rw [HPI.out]; omega) H16.out).2, HAE.out, HLM.out]; simp [newL, firstT, HE.out]
              have HB9 : Below w.heap.size w w9 := ((HV4.out.trans (HV4b.out.mono HV4.out.size)).alloc (Nat.le_trans HV4.out.size HV4b.out.size) _).grown HS6.out (Nat.le_trans HV3.out.size HW6.out) (fun j hj => Nat.le_trans HV3.out.size (HT5.out.lt hj).1)
              exact ⟨A5, c5, ret_ap (by rw [hfin]) (ap_new (now := now) HY.out (by rw [HPI.out]; omega) H16.out).1.symm, Lib.hid (by rw [hfin]; exact HO6.out.mono HV3.out.size), HB9⟩
end Go.Proofs.Ytijobbdgiaiocaa.Con
