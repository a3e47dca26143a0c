/-
  The law ContentStays: content that is right stays so without its last foe, and each one is found by its Id.
-/
import Derived.Test.YtekpbdjnfobobaaOpen
import Derived.Test.YtekpbdjnfobobaaSta
import Derived.Deep.Cut
import Derived.WalkKit
import Derived.ProofKit
import Derived.OpenShut
namespace Go.Proofs.Ytekpbdjnfobobaa.contentStays
open Go.ChangeShapes Go.WideShapes Go.ChangeAt Go.RowKit Con Go.Maps
set_option linter.unusedVariables false

theorem own : ownKnob Try.prog.godebug = none := by kernel_rfl

theorem nx {k : Nat} (h : (k : Int) ≤ 1000) : Value.int .i64 (wrap64 ((k : Int) + 1)) = .int .i64 ((k + 1 : Nat) : Int) := by
  rw [show wrap64 ((k : Int) + 1) = (k : Int) + 1 by unfold wrap64; omega]; rfl
set_option maxRecDepth 100000 in
set_option maxHeartbeats 64000000 in
theorem walk (W : World) (c : Cn) (hr : RC W W.heap.size c) (hcap : c.fo.length ≤ c.fC) : Calls Try.prog 4 #[cnv c] W fun e w' => e = .returned (.bool true) ∧ Below W.heap.size W w' := by
  obtain ⟨x, hx⟩ := bex (FewP c)
  obtain ⟨r, hq⟩ := bex (RightC c)
  have hb0 : Below W.heap.size W (W.alloc (oCn c)) := by go_grown
  have HBox : Hid (∀ wz, Below (W.alloc (oCn c)).heap.size (W.alloc (oCn c)) wz → wz.cell? ⟨W.heap.size, 0, none⟩ = some (.slice c.aA c.ab.length c.aC) ∧ wz.cell? ⟨W.heap.size, 1, none⟩ = some (.slice c.uA c.au.length c.uC) ∧ wz.cell? ⟨W.heap.size, 2, none⟩ = some (.slice c.fA c.fo.length c.fC) ∧ wz.cell? ⟨W.heap.size, 3, none⟩ = some (.int .i64 c.W) ∧ wz.cell? ⟨W.heap.size, 4, none⟩ = some (.int .i64 c.H) ∧ wz.cell? ⟨W.heap.size, 5, none⟩ = some (.slice c.gA c.wl.length c.gC) ∧ wz.cell? ⟨W.heap.size, 6, none⟩ = some (.int .i64 c.dx) ∧ wz.cell? ⟨W.heap.size, 7, none⟩ = some (.int .i64 c.dy) ∧ wz.cell? ⟨W.heap.size, 8, none⟩ = some (.int .i64 c.lx) ∧ wz.cell? ⟨W.heap.size, 9, none⟩ = some (.int .i64 c.ly)) := Lib.hid (fun wz hz => ((at_cn W c).of hz (by simp)).ten)
  have HBX := Lib.hid (heap_alloc_new W (oCn c))
  have HR := Lib.hid (hr.below hb0 (Nat.le_refl _))
  have HBV := Lib.hid hb0.size; have HB0 := Lib.hid hb0; have HCap := Lib.hid hcap
  have HVs : Hid (W.heap.size < (W.alloc (oCn c)).heap.size) := Lib.hid (by simp)
  clear hb0 hr hcap
  go_enter Try.func4, Try.ntmps4
  go_wp2_with (fail)
  generalize W.alloc (oCn c) = V at *
  have HFw : Hid (∀ V1, Below V.heap.size V V1 → Calls Try.prog 6 #[cnv c] V1 fun e w' => e = .returned (.bool x) ∧ Below V1.heap.size V1 w') := Lib.hid (fun V1 hV1 => few_c c (HR.out.below hV1 HBV.out) (Nat.le_trans HBV.out hV1.size) x hx)
  have HRt : Hid (Sm c → ∀ V1, Below V.heap.size V V1 → Calls Try.prog 20 #[cnv c] V1 fun e w' => e = .returned (.bool r) ∧ Below V1.heap.size V1 w') := Lib.hid (fun hs V1 hV1 => right_c (HR.out.below hV1 HBV.out) (Nat.le_trans HBV.out hV1.size) hs r hq)
  have Hx := Lib.hid hx.1; have Hq := Lib.hid hq.1
  clear hx hq
  cases x with
  | false =>
    go_wp2_with (first
      | ((with_reducible refine (small_c _).mono ?_); rintro e w1 ⟨rfl, hB1⟩; have hV1 := hB1; obtain ⟨d0, d1, d2, d3, d4, d5, d6, d7, d8, d9⟩ := HBox.out _ hV1)
      | ((with_reducible refine (HFw.out _ hV1).mono ?_); rintro e w2 ⟨rfl, hB2⟩; have hV2 := bstep hB2 hV1; clear d0 d1 d2 d3 d4 d5 d6 d7 d8 d9; obtain ⟨d0, d1, d2, d3, d4, d5, d6, d7, d8, d9⟩ := HBox.out _ hV2))
    go_ret
    exact ⟨rfl, HB0.out.trans (hV2.mono HBV.out)⟩
  | true =>
    have HSm := Lib.hid (Hx.out rfl).sm
    clear Hx
    cases r with
    | false =>
      go_wp2_with (first
        | ((with_reducible refine (small_c _).mono ?_); rintro e w1 ⟨rfl, hB1⟩; have hV1 := hB1; obtain ⟨d0, d1, d2, d3, d4, d5, d6, d7, d8, d9⟩ := HBox.out _ hV1)
        | ((with_reducible refine (HFw.out _ hV1).mono ?_); rintro e w2 ⟨rfl, hB2⟩; have hV2 := bstep hB2 hV1; clear d0 d1 d2 d3 d4 d5 d6 d7 d8 d9; obtain ⟨d0, d1, d2, d3, d4, d5, d6, d7, d8, d9⟩ := HBox.out _ hV2)
        | ((with_reducible refine (HRt.out HSm.out _ hV2).mono ?_); rintro e w3 ⟨rfl, hB3⟩; have hV3 := bstep hB3 hV2; clear d0 d1 d2 d3 d4 d5 d6 d7 d8 d9))
      go_ret
      exact ⟨rfl, HB0.out.trans (hV3.mono HBV.out)⟩
    | true =>
      have HN := Lib.hid (Hq.out rfl).nice
      have HRC := Lib.hid (Hq.out rfl)
      clear Hq
      go_wp2_with (first
        | ((with_reducible refine (small_c _).mono ?_); rintro e w1 ⟨rfl, hB1⟩; have hV1 := hB1; obtain ⟨d0, d1, d2, d3, d4, d5, d6, d7, d8, d9⟩ := HBox.out _ hV1)
        | ((with_reducible refine (HFw.out _ hV1).mono ?_); rintro e w2 ⟨rfl, hB2⟩; have hV2 := bstep hB2 hV1; clear d0 d1 d2 d3 d4 d5 d6 d7 d8 d9; obtain ⟨d0, d1, d2, d3, d4, d5, d6, d7, d8, d9⟩ := HBox.out _ hV2)
        | ((with_reducible refine (HRt.out HSm.out _ hV2).mono ?_); rintro e w3 ⟨rfl, hB3⟩; have hV3 := bstep hB3 hV2; clear d0 d1 d2 d3 d4 d5 d6 d7 d8 d9))
      have HB3 := Lib.hid hV3
      clear hV1 hV2 hV3 hB1 hB2 hB3
      go_loopg [5] c.ab.length (fun m s5 wr => ∃ k : Nat, k ≤ c.ab.length ∧ m = c.ab.length - k ∧ s5 = .int .i64 (k : Int) ∧ Hid (Below V.heap.size V wr))
      case atStart => exact ⟨0, by omega, rfl, rfl, HB3⟩
      case round =>
        obtain ⟨k, hk, rfl, rfl, HW⟩ := hrel
        obtain ⟨d0, d1, d2, d3, d4, d5, d6, d7, d8, d9⟩ := HBox.out wr HW.out
        by_cases hkn : k < c.ab.length
        · have hkl : (k : Int) < c.ab.length := by omega
          obtain ⟨a, ha⟩ : ∃ a, c.ab[k]? = some a := ⟨_, List.getElem?_eq_getElem hkn⟩
          obtain ⟨p, off, hA, hpl, _⟩ := rowAb HR.out.abs ha (Below.refl _ V) HBV.out
          have HK := Lib.hid (show k + 1 ≤ c.ab.length from hkn)
          have HKb : Hid ((k : Int) ≤ 1000) := Lib.hid (by have := HSm.out.abs; omega)
          have HMem := Lib.hid (List.mem_of_getElem? ha)
          have HFD := Lib.hid (fd_self zAb HN.out.abp ha)
          have HAa := Lib.hid hA
          have HC : Hid (∀ wz, Below V.heap.size V wz → wz.cell? ⟨W.heap.size, 0, none⟩ = some (.slice c.aA c.ab.length c.aC) ∧ wz.cell? ⟨W.heap.size, 1, none⟩ = some (.slice c.uA c.au.length c.uC) ∧ wz.cell? ⟨W.heap.size, 2, none⟩ = some (.slice c.fA c.fo.length c.fC) ∧ wz.cell? ⟨W.heap.size, 3, none⟩ = some (.int .i64 c.W) ∧ wz.cell? ⟨W.heap.size, 4, none⟩ = some (.int .i64 c.H) ∧ wz.cell? ⟨W.heap.size, 5, none⟩ = some (.slice c.gA c.wl.length c.gC) ∧ wz.cell? ⟨W.heap.size, 6, none⟩ = some (.int .i64 c.dx) ∧ wz.cell? ⟨W.heap.size, 7, none⟩ = some (.int .i64 c.dy) ∧ wz.cell? ⟨W.heap.size, 8, none⟩ = some (.int .i64 c.lx) ∧ wz.cell? ⟨W.heap.size, 9, none⟩ = some (.int .i64 c.ly) ∧ wz.cell? ⟨p, off + k * 8, none⟩ = some (.int .i64 a.id) ∧ wz.cell? ⟨p, off + k * 8 + 1, none⟩ = some (.int .i64 a.cast) ∧ wz.cell? ⟨p, off + k * 8 + 2, none⟩ = some (.int .i64 a.cool) ∧ wz.cell? ⟨p, off + k * 8 + 3, none⟩ = some (.int .i64 a.charges) ∧ wz.cell? ⟨p, off + k * 8 + 4, none⟩ = some (.int .i64 a.range) ∧ wz.cell? ⟨p, off + k * 8 + 5, none⟩ = some (.int .i64 a.cost) ∧ wz.cell? ⟨p, off + k * 8 + 6, none⟩ = some (.bool a.sight) ∧ wz.cell? ⟨p, off + k * 8 + 7, none⟩ = some (.slice a.ea a.eff.length a.ec)) := Lib.hid (fun wz hz => by
            obtain ⟨p2, off2, hA2, _, q⟩ := rowAb HR.out.abs ha hz HBV.out
            rw [hA] at hA2; injection hA2 with e; injection e with e1 e2; subst e1; subst e2
            obtain ⟨d0, d1, d2, d3, d4, d5, d6, d7, d8, d9⟩ := HBox.out wz hz
            exact ⟨d0, d1, d2, d3, d4, d5, d6, d7, d8, d9, q⟩)
          have HLe := Lib.hid (show (a.eff.length : Int) ≤ 100000 by have := HSm.out.effs a HMem.out; omega)
          have HQ : Hid (decide (a.cast < 0) = false ∧ decide (1000000 < a.cast) = false ∧ decide (a.charges < 1) = false ∧ decide ((a.eff.length : Int) < 1) = false) := Lib.hid (by
            obtain ⟨h1, _, _, _, h2, h3, _⟩ := HN.out.abs a HMem.out
            unfold Amt at h1; unfold In at h2 h3
            refine ⟨?_, ?_, ?_, ?_⟩ <;> (simp only [decide_eq_false_iff_not]; omega))
          clear ha hA hpl
          rw [HAa.out] at d0
          go_wp2
          have hS0 : Below V.heap.size V wr.drew := HW.out.drew
          refine wp_region_noPanic ?_
          refine wp_region_held_drew (S := fun w' => Below V.heap.size V w') (by kernel_rfl) hS0 (fun _ => ?_)
          generalize wr.drew = v0 at hS0 ⊢
          refine wpAnyH_take (i := 0) (oi := ⟨some 35, Op.load 31 (Operand.tmp 1), 31, _, _, none⟩) (v := ?va0) rfl (by kernel_rfl) (by kernel_rfl) (by kernel_rfl) (fun _ _ _ h => h) (Or.inl ⟨by rfl, ?ha0⟩) hS0 ?ra0
          case ha0 => (intro wz hSw; obtain ⟨d0, d1, d2, d3, d4, d5, d6, d7, d8, d9, c0, c1, c2, c3, c4, c5, c6, c7⟩ := HC.out wz hSw; go_simp <;> with_reducible rfl)
          (try simp only [Act.put, List.setIfInBounds_toArray, List.set_cons_zero, List.set_cons_succ])
          refine wpAnyH_take (i := 1) (oi := ⟨some 36, Op.fieldAddr 31 (Operand.tmp 1) 0, 0, _, _, none⟩) (v := ?va1) rfl (by kernel_rfl) (by kernel_rfl) (by kernel_rfl) (fun _ _ _ h => h) (Or.inl ⟨by rfl, ?ha1⟩) hS0 ?ra1
          case ha1 => (intro wz hSw; go_simp <;> with_reducible rfl)
          (try simp only [Act.put, List.setIfInBounds_toArray, List.set_cons_zero, List.set_cons_succ])
          refine wpAnyH_take (i := 2) (oi := ⟨some 37, Op.load 22 (Operand.tmp 36), 22, _, _, none⟩) (v := ?va2) rfl (by kernel_rfl) (by kernel_rfl) (by kernel_rfl) (fun _ _ _ h => h) (Or.inl ⟨by rfl, ?ha2⟩) hS0 ?ra2
          case ha2 => (intro wz hSw; obtain ⟨d0, d1, d2, d3, d4, d5, d6, d7, d8, d9, c0, c1, c2, c3, c4, c5, c6, c7⟩ := HC.out wz hSw; rw [HAa.out] at d0; go_simp <;> with_reducible rfl)
          (try simp only [Act.put, List.setIfInBounds_toArray, List.set_cons_zero, List.set_cons_succ])
          refine wpAnyH_take (i := 3) (oi := ⟨some 38, Op.move (Operand.tmp 5), 3, _, _, none⟩) (v := ?va3) rfl (by kernel_rfl) (by kernel_rfl) (by kernel_rfl) (fun _ _ _ h => h) (Or.inl ⟨by rfl, ?ha3⟩) hS0 ?ra3
          case ha3 => (intro wz hSw; go_simp <;> with_reducible rfl)
          (try simp only [Act.put, List.setIfInBounds_toArray, List.set_cons_zero, List.set_cons_succ])
          refine wpAnyH_take (i := 4) (oi := ⟨some 39, Op.indexAddr 22 (Operand.tmp 37) (Operand.tmp 38), 0, _, _, none⟩) (v := ?va4) rfl (by kernel_rfl) (by kernel_rfl) (by kernel_rfl) (fun _ _ _ h => h) (Or.inl ⟨by rfl, ?ha4⟩) hS0 ?ra4
          case ha4 => (intro wz hSw; go_simp <;> with_reducible rfl)
          (try simp only [Act.put, List.setIfInBounds_toArray, List.set_cons_zero, List.set_cons_succ])
          refine wpAnyH_take (i := 5) (oi := ⟨some 40, Op.fieldAddr 37 (Operand.tmp 39) 0, 0, _, _, none⟩) (v := ?va5) rfl (by kernel_rfl) (by kernel_rfl) (by kernel_rfl) (fun _ _ _ h => h) (Or.inl ⟨by rfl, ?ha5⟩) hS0 ?ra5
          case ha5 => (intro wz hSw; go_simp <;> with_reducible rfl)
          (try simp only [Act.put, List.setIfInBounds_toArray, List.set_cons_zero, List.set_cons_succ])
          refine wpAnyH_take (i := 6) (oi := ⟨some 41, Op.load 3 (Operand.tmp 40), 3, _, _, none⟩) (v := ?va6) rfl (by kernel_rfl) (by kernel_rfl) (by kernel_rfl) (fun _ _ _ h => h) (Or.inl ⟨by rfl, ?ha6⟩) hS0 ?ra6
          case ha6 => (intro wz hSw; obtain ⟨d0, d1, d2, d3, d4, d5, d6, d7, d8, d9, c0, c1, c2, c3, c4, c5, c6, c7⟩ := HC.out wz hSw; go_simp <;> with_reducible rfl)
          (try simp only [Act.put, List.setIfInBounds_toArray, List.set_cons_zero, List.set_cons_succ])
          refine wpAnyH_ready (rs := [7, 11]) (by kernel_rfl) (by simp) ?_
          refine AllReadyH.cons (o := ⟨some 42, Op.call { callee := Callee.value (Operand.func 8), args := #[Operand.tmp 35, Operand.tmp 41], argTypes := #[31, 3] }, 38, _, _, none⟩) rfl (fun K hK => ?_) (AllReadyH.cons (o := ⟨some 6, Op.alloc 37, 0, _, _, none⟩) rfl (fun K hK => ?_) AllReadyH.nil)
          · go_simp
            (with_reducible refine (ability_any (HR.out.below hS0 HBV.out) (Nat.le_trans HBV.out hS0.size) HSm.out a.id a true HFD.out).mono ?_); rintro e v11 ⟨A', c', rfl, HO, hB11⟩; have hS11 := bstep hB11 hS0; have hE11_0 := HO.out.pw.rw'
            refine hK.out _ _ hS11 (fun _ => ?_)
            clear hK K
            (try simp only [Act.put, List.setIfInBounds_toArray, List.set_cons_zero, List.set_cons_succ])
            refine wpAnyH_take (i := 8) (oi := ⟨some 34, Op.move (Operand.tmp 42), 38, _, _, none⟩) (v := ?vab78) rfl (by kernel_rfl) (by kernel_rfl) (by kernel_rfl) (fun _ _ _ h => h) (Or.inl ⟨by rfl, ?hab78⟩) hS11 ?rab78
            case hab78 => (intro wz hSw; go_simp <;> with_reducible rfl)
            (try simp only [Act.put, List.setIfInBounds_toArray, List.set_cons_zero, List.set_cons_succ])
            refine wpAnyH_take (i := 9) (oi := ⟨some 43, Op.extract (Operand.tmp 34) 0, 37, _, _, none⟩) (v := ?vab79) rfl (by kernel_rfl) (by kernel_rfl) (by kernel_rfl) (fun _ _ _ h => h) (Or.inl ⟨by rfl, ?hab79⟩) hS11 ?rab79
            case hab79 => (intro wz hSw; go_simp <;> with_reducible rfl)
            (try simp only [Act.put, List.setIfInBounds_toArray, List.set_cons_zero, List.set_cons_succ])
            refine wpAnyH_take (i := 10) (oi := ⟨some 44, Op.extract (Operand.tmp 34) 1, 4, _, _, none⟩) (v := ?vab710) rfl (by kernel_rfl) (by kernel_rfl) (by kernel_rfl) (fun _ _ _ h => h) (Or.inl ⟨by rfl, ?hab710⟩) hS11 ?rab710
            case hab710 => (intro wz hSw; go_simp <;> with_reducible rfl)
            (try simp only [Act.put, List.setIfInBounds_toArray, List.set_cons_zero, List.set_cons_succ])
            refine wpAnyH_ready (rs := [11]) (by kernel_rfl) (by simp) ?_
            refine AllReadyH.cons (o := ⟨some 6, Op.alloc 37, 0, _, _, none⟩) rfl (fun K hK => ?_) AllReadyH.nil
            go_simp
            have hZ12 := heap_alloc_new v11 zcAb; have hge := hS11.size; have hS12 := hS11.alloc hS11.size zcAb; have hsz : v11.heap.size < (v11.alloc zcAb).heap.size := (by simp); have hE12_0 := fun o vs => rw_new (hE11_0.below ((Below.refl _ v11).alloc (Nat.le_refl _) zcAb) (Nat.le_refl _)) (Nat.le_refl _) hsz o vs; clear hE11_0; clear hsz; generalize hP : v11.heap.size = P at hZ12 hge hE12_0 ⊢; generalize hV : v11.alloc zcAb = v12 at hZ12 hS12 hE12_0 ⊢; clear hP hV
            refine hK.out _ _ hS12 (fun _ => ?_)
            clear hK K
            (try simp only [Act.put, List.setIfInBounds_toArray, List.set_cons_zero, List.set_cons_succ])
            refine wpAnyH_ready (rs := [12]) (by kernel_rfl) (by simp) ?_
            refine AllReadyH.cons (o := ⟨none, Op.store 37 (Operand.tmp 6) (Operand.tmp 43), 0, _, _, none⟩) rfl (fun K hK => ?_) AllReadyH.nil
            have z := cell_of hZ12; have y := froz_of hZ12
            go_simp
            rw [eight0]; have hPZ := put8 hZ12 (.int .i64 a.id) (.int .i64 a.cast) (.int .i64 a.cool) (.int .i64 a.charges) (.int .i64 a.range) (.int .i64 a.cost) (.bool a.sight) (.slice A' a.eff.length c'); have hS13 := below_setCells P hge [.int .i64 a.id, .int .i64 a.cast, .int .i64 a.cool, .int .i64 a.charges, .int .i64 a.range, .int .i64 a.cost, .bool a.sight, .slice A' a.eff.length c'] 0 v12 hS12; have hRE0 := hE12_0 0 [.int .i64 a.id, .int .i64 a.cast, .int .i64 a.cool, .int .i64 a.charges, .int .i64 a.range, .int .i64 a.cost, .bool a.sight, .slice A' a.eff.length c']; clear z y; generalize hN : World.setCells v12 P 0 _ = v13 at hPZ hS13 hRE0 ⊢; clear hN
            refine hK.out _ _ hS13 (fun _ => ?_)
            clear hK K
            (try simp only [Act.put, List.setIfInBounds_toArray, List.set_cons_zero, List.set_cons_succ])
            refine wpAnyH_take (i := 13) (oi := ⟨some 7, Op.assign (Operand.tmp 44), 4, _, _, none⟩) (v := ?vab713) rfl (by kernel_rfl) (by kernel_rfl) (by kernel_rfl) (fun _ _ _ h => h) (Or.inl ⟨by rfl, ?hab713⟩) hS13 ?rab713
            case hab713 => (intro wz hSw; go_simp <;> with_reducible rfl)
            (try simp only [Act.put, List.setIfInBounds_toArray, List.set_cons_zero, List.set_cons_succ])
            refine wpAnyH_done (by kernel_rfl) ?_ _
            refine NoPanic.normal ?_
            have HB9 := Lib.hid hS13; have HPZ : Hid (v13.heap[P]? = some (oAb (a.re A' c'))) := Lib.hid hPZ; have HRE := Lib.hid hRE0
            clear hPZ hRE0 hge
            have HRa : Hid (RW ef v13 v13.heap.size a.ea a.eff) := Lib.hid (((HR.out.effs a HMem.out).below HB9.out HBV.out).more (Nat.le_trans HBV.out HB9.out.size))
            have HC9 : Hid (∀ wz, Below v13.heap.size v13 wz → wz.cell? ⟨W.heap.size, 0, none⟩ = some (.slice c.aA c.ab.length c.aC) ∧ (wz.cell? ⟨p, off + k * 8, none⟩ = some (.int .i64 a.id) ∧ wz.cell? ⟨p, off + k * 8 + 1, none⟩ = some (.int .i64 a.cast) ∧ wz.cell? ⟨p, off + k * 8 + 2, none⟩ = some (.int .i64 a.cool) ∧ wz.cell? ⟨p, off + k * 8 + 3, none⟩ = some (.int .i64 a.charges) ∧ wz.cell? ⟨p, off + k * 8 + 4, none⟩ = some (.int .i64 a.range) ∧ wz.cell? ⟨p, off + k * 8 + 5, none⟩ = some (.int .i64 a.cost) ∧ wz.cell? ⟨p, off + k * 8 + 6, none⟩ = some (.bool a.sight) ∧ wz.cell? ⟨p, off + k * 8 + 7, none⟩ = some (.slice a.ea a.eff.length a.ec)) ∧ wz.cell? ⟨P, 0, none⟩ = some (.int .i64 a.id) ∧ wz.cell? ⟨P, 1, none⟩ = some (.int .i64 a.cast) ∧ wz.cell? ⟨P, 2, none⟩ = some (.int .i64 a.cool) ∧ wz.cell? ⟨P, 3, none⟩ = some (.int .i64 a.charges) ∧ wz.cell? ⟨P, 4, none⟩ = some (.int .i64 a.range) ∧ wz.cell? ⟨P, 5, none⟩ = some (.int .i64 a.cost) ∧ wz.cell? ⟨P, 6, none⟩ = some (.bool a.sight) ∧ wz.cell? ⟨P, 7, none⟩ = some (.slice A' a.eff.length c')) := Lib.hid (fun wz hz => by
              obtain ⟨d0, d1, d2, d3, d4, d5, d6, d7, d8, d9, q⟩ := HC.out wz (bstep hz HB9.out)
              have g := oAb_cells ((hz.block _ (lt_of_heap HPZ.out)).trans HPZ.out)
              rw [HAa.out] at d0
              exact ⟨by rw [HAa.out]; exact d0, q, g⟩)
            generalize v13 = v9 at *
            clear HPZ
            go_wp2
            obtain ⟨hq1, hq2, hq3, hq4⟩ := HQ.out
            have hS0 : Below v9.heap.size v9 v9.drew := (Below.refl _ _).drew
            refine wp_region_noPanic ?_
            refine wp_region_held_drew (S := fun w' => Below v9.heap.size v9 w') (by kernel_rfl) hS0 (fun _ => ?_)
            generalize v9.drew = v0 at hS0 ⊢
            refine wpAnyH_take (i := 0) (oi := ⟨some 45, Op.move (Operand.tmp 7), 4, _, _, none⟩) (v := ?vb140) rfl (by kernel_rfl) (by kernel_rfl) (by kernel_rfl) (fun _ _ _ h => h) (Or.inl ⟨by rfl, ?hb140⟩) hS0 ?rb140
            case hb140 => (intro wz hSw; go_simp <;> with_reducible rfl)
            (try simp only [Act.put, List.setIfInBounds_toArray, List.set_cons_zero, List.set_cons_succ])
            refine wpAnyH_take (i := 1) (oi := ⟨some 46, Op.unOp UnOp.not 4 (Operand.tmp 45), 4, _, _, none⟩) (v := ?vb141) rfl (by kernel_rfl) (by kernel_rfl) (by kernel_rfl) (fun _ _ _ h => h) (Or.inl ⟨by rfl, ?hb141⟩) hS0 ?rb141
            case hb141 => (intro wz hSw; go_simp <;> with_reducible rfl)
            (try simp only [Act.put, List.setIfInBounds_toArray, List.set_cons_zero, List.set_cons_succ])
            refine wpAnyH_take (i := 2) (oi := ⟨some 47, Op.move (Operand.tmp 46), 4, _, _, none⟩) (v := ?vb142) rfl (by kernel_rfl) (by kernel_rfl) (by kernel_rfl) (fun _ _ _ h => h) (Or.inl ⟨by rfl, ?hb142⟩) hS0 ?rb142
            case hb142 => (intro wz hSw; go_simp <;> with_reducible rfl)
            (try simp only [Act.put, List.setIfInBounds_toArray, List.set_cons_zero, List.set_cons_succ])
            refine wpAnyH_take (i := 3) (oi := ⟨some 48, Op.load 37 (Operand.tmp 6), 37, _, _, some (2, false)⟩) (v := ?vb143) rfl (by kernel_rfl) (by kernel_rfl) (by kernel_rfl) (fun _ _ _ h => h) (Or.inl ⟨by rfl, ?hb143⟩) hS0 ?rb143
            case hb143 => (intro wz hSw; obtain ⟨d0, ⟨c0, c1, c2, c3, c4, c5, c6, c7⟩, e0, e1, e2, e3, e4, e5, e6, e7⟩ := HC9.out wz hSw; rw [HAa.out] at d0; go_simp <;> with_reducible rfl)
            (try simp only [Act.put, List.setIfInBounds_toArray, List.set_cons_zero, List.set_cons_succ])
            refine wpAnyH_take (i := 4) (oi := ⟨some 49, Op.fieldAddr 31 (Operand.tmp 1) 0, 0, _, _, some (2, false)⟩) (v := ?vb144) rfl (by kernel_rfl) (by kernel_rfl) (by kernel_rfl) (fun _ _ _ h => h) (Or.inl ⟨by rfl, ?hb144⟩) hS0 ?rb144
            case hb144 => (intro wz hSw; go_simp <;> with_reducible rfl)
            (try simp only [Act.put, List.setIfInBounds_toArray, List.set_cons_zero, List.set_cons_succ])
            refine wpAnyH_take (i := 5) (oi := ⟨some 50, Op.load 22 (Operand.tmp 49), 22, _, _, some (2, false)⟩) (v := ?vb145) rfl (by kernel_rfl) (by kernel_rfl) (by kernel_rfl) (fun _ _ _ h => h) (Or.inl ⟨by rfl, ?hb145⟩) hS0 ?rb145
            case hb145 => (intro wz hSw; obtain ⟨d0, ⟨c0, c1, c2, c3, c4, c5, c6, c7⟩, e0, e1, e2, e3, e4, e5, e6, e7⟩ := HC9.out wz hSw; rw [HAa.out] at d0; go_simp <;> with_reducible rfl)
            (try simp only [Act.put, List.setIfInBounds_toArray, List.set_cons_zero, List.set_cons_succ])
            refine wpAnyH_take (i := 6) (oi := ⟨some 51, Op.move (Operand.tmp 5), 3, _, _, some (2, false)⟩) (v := ?vb146) rfl (by kernel_rfl) (by kernel_rfl) (by kernel_rfl) (fun _ _ _ h => h) (Or.inl ⟨by rfl, ?hb146⟩) hS0 ?rb146
            case hb146 => (intro wz hSw; go_simp <;> with_reducible rfl)
            (try simp only [Act.put, List.setIfInBounds_toArray, List.set_cons_zero, List.set_cons_succ])
            refine wpAnyH_take (i := 7) (oi := ⟨some 52, Op.indexAddr 22 (Operand.tmp 50) (Operand.tmp 51), 0, _, _, some (2, false)⟩) (v := ?vb147) rfl (by kernel_rfl) (by kernel_rfl) (by kernel_rfl) (fun _ _ _ h => h) (Or.inl ⟨by rfl, ?hb147⟩) hS0 ?rb147
            case hb147 => (intro wz hSw; go_simp <;> with_reducible rfl)
            (try simp only [Act.put, List.setIfInBounds_toArray, List.set_cons_zero, List.set_cons_succ])
            refine wpAnyH_take (i := 8) (oi := ⟨some 53, Op.load 37 (Operand.tmp 52), 37, _, _, some (2, false)⟩) (v := ?vb148) rfl (by kernel_rfl) (by kernel_rfl) (by kernel_rfl) (fun _ _ _ h => h) (Or.inl ⟨by rfl, ?hb148⟩) hS0 ?rb148
            case hb148 => (intro wz hSw; obtain ⟨d0, ⟨c0, c1, c2, c3, c4, c5, c6, c7⟩, e0, e1, e2, e3, e4, e5, e6, e7⟩ := HC9.out wz hSw; rw [HAa.out] at d0; go_simp <;> with_reducible rfl)
            (try simp only [Act.put, List.setIfInBounds_toArray, List.set_cons_zero, List.set_cons_succ])
            refine wpAnyH_ready (rs := [9]) (by kernel_rfl) (by simp) ?_
            refine AllReadyH.cons (o := ⟨some 54, Op.call { callee := Callee.value (Operand.func 14), args := #[Operand.tmp 48, Operand.tmp 53], argTypes := #[37, 37] }, 4, _, _, some (2, false)⟩) rfl (fun K hK => ?_) AllReadyH.nil
            go_simp
            (with_reducible refine (rsameAb (a.re A' c') a (HRE.out.below hS0 (Nat.le_refl _)) (HRa.out.below hS0 (Nat.le_refl _)) hS0.size HLe.out true ⟨fun _ => rfl, fun _ => rfl⟩).mono ?_); rintro e u15 ⟨rfl, hB15⟩; have hS15 := bstep hB15 hS0
            refine hK.out _ _ hS15 (fun _ => ?_)
            clear hK K
            (try simp only [Act.put, List.setIfInBounds_toArray, List.set_cons_zero, List.set_cons_succ])
            refine wpAnyH_take (i := 10) (oi := ⟨some 55, Op.unOp UnOp.not 4 (Operand.tmp 54), 4, _, _, some (2, false)⟩) (v := ?vb1410) rfl (by kernel_rfl) (by kernel_rfl) (by kernel_rfl) (fun _ _ _ h => h) (Or.inl ⟨by rfl, ?hb1410⟩) hS15 ?rb1410
            case hb1410 => (intro wz hSw; go_simp <;> with_reducible rfl)
            (try simp only [Act.put, List.setIfInBounds_toArray, List.set_cons_zero, List.set_cons_succ])
            refine wpAnyH_take (i := 11) (oi := ⟨some 56, Op.pick (Operand.tmp 47) (Operand.const (Value.bool true)) (Operand.tmp 55), 4, _, _, none⟩) (v := ?vb1411) rfl (by kernel_rfl) (by kernel_rfl) (by kernel_rfl) (fun _ _ _ h => h) (Or.inl ⟨by rfl, ?hb1411⟩) hS15 ?rb1411
            case hb1411 => (intro wz hSw; go_simp <;> with_reducible rfl)
            (try simp only [Act.put, List.setIfInBounds_toArray, List.set_cons_zero, List.set_cons_succ])
            refine wpAnyH_take (i := 12) (oi := ⟨some 57, Op.move (Operand.tmp 56), 4, _, _, none⟩) (v := ?vb1412) rfl (by kernel_rfl) (by kernel_rfl) (by kernel_rfl) (fun _ _ _ h => h) (Or.inl ⟨by rfl, ?hb1412⟩) hS15 ?rb1412
            case hb1412 => (intro wz hSw; go_simp <;> with_reducible rfl)
            (try simp only [Act.put, List.setIfInBounds_toArray, List.set_cons_zero, List.set_cons_succ])
            refine wpAnyH_take (i := 13) (oi := ⟨some 58, Op.fieldAddr 37 (Operand.tmp 6) 1, 0, _, _, some (12, false)⟩) (v := ?vb1413) rfl (by kernel_rfl) (by kernel_rfl) (by kernel_rfl) (fun _ _ _ h => h) (Or.inl ⟨by rfl, ?hb1413⟩) hS15 ?rb1413
            case hb1413 => (intro wz hSw; go_simp <;> with_reducible rfl)
            (try simp only [Act.put, List.setIfInBounds_toArray, List.set_cons_zero, List.set_cons_succ])
            refine wpAnyH_take (i := 14) (oi := ⟨some 59, Op.load 3 (Operand.tmp 58), 3, _, _, some (12, false)⟩) (v := ?vb1414) rfl (by kernel_rfl) (by kernel_rfl) (by kernel_rfl) (fun _ _ _ h => h) (Or.inl ⟨by rfl, ?hb1414⟩) hS15 ?rb1414
            case hb1414 => (intro wz hSw; obtain ⟨d0, ⟨c0, c1, c2, c3, c4, c5, c6, c7⟩, e0, e1, e2, e3, e4, e5, e6, e7⟩ := HC9.out wz hSw; rw [HAa.out] at d0; go_simp <;> with_reducible rfl)
            (try simp only [Act.put, List.setIfInBounds_toArray, List.set_cons_zero, List.set_cons_succ])
            refine wpAnyH_take (i := 15) (oi := ⟨some 60, Op.binOp BinOp.lss 3 (Operand.tmp 59) (Operand.const (Value.int IntKind.i64 0)) 3, 4, _, _, some (12, false)⟩) (v := ?vb1415) rfl (by kernel_rfl) (by kernel_rfl) (by kernel_rfl) (fun _ _ _ h => h) (Or.inl ⟨by rfl, ?hb1415⟩) hS15 ?rb1415
            case hb1415 => (intro wz hSw; go_simp <;> with_reducible rfl)
            (try simp only [Act.put, List.setIfInBounds_toArray, List.set_cons_zero, List.set_cons_succ])
            refine wpAnyH_take (i := 16) (oi := ⟨some 61, Op.pick (Operand.tmp 57) (Operand.const (Value.bool true)) (Operand.tmp 60), 4, _, _, none⟩) (v := ?vb1416) rfl (by kernel_rfl) (by kernel_rfl) (by kernel_rfl) (fun _ _ _ h => h) (Or.inl ⟨by rfl, ?hb1416⟩) hS15 ?rb1416
            case hb1416 => (intro wz hSw; go_simp <;> with_reducible rfl)
            (try simp only [Act.put, List.setIfInBounds_toArray, List.set_cons_zero, List.set_cons_succ])
            refine wpAnyH_take (i := 17) (oi := ⟨some 62, Op.move (Operand.tmp 61), 4, _, _, none⟩) (v := ?vb1417) rfl (by kernel_rfl) (by kernel_rfl) (by kernel_rfl) (fun _ _ _ h => h) (Or.inl ⟨by rfl, ?hb1417⟩) hS15 ?rb1417
            case hb1417 => (intro wz hSw; go_simp <;> with_reducible rfl)
            (try simp only [Act.put, List.setIfInBounds_toArray, List.set_cons_zero, List.set_cons_succ])
            refine wpAnyH_take (i := 18) (oi := ⟨some 63, Op.fieldAddr 37 (Operand.tmp 6) 1, 0, _, _, some (17, false)⟩) (v := ?vb1418) rfl (by kernel_rfl) (by kernel_rfl) (by kernel_rfl) (fun _ _ _ h => h) (Or.inl ⟨by rfl, ?hb1418⟩) hS15 ?rb1418
            case hb1418 => (intro wz hSw; go_simp <;> with_reducible rfl)
            (try simp only [Act.put, List.setIfInBounds_toArray, List.set_cons_zero, List.set_cons_succ])
            refine wpAnyH_take (i := 19) (oi := ⟨some 64, Op.load 3 (Operand.tmp 63), 3, _, _, some (17, false)⟩) (v := ?vb1419) rfl (by kernel_rfl) (by kernel_rfl) (by kernel_rfl) (fun _ _ _ h => h) (Or.inl ⟨by rfl, ?hb1419⟩) hS15 ?rb1419
            case hb1419 => (intro wz hSw; obtain ⟨d0, ⟨c0, c1, c2, c3, c4, c5, c6, c7⟩, e0, e1, e2, e3, e4, e5, e6, e7⟩ := HC9.out wz hSw; rw [HAa.out] at d0; go_simp <;> with_reducible rfl)
            (try simp only [Act.put, List.setIfInBounds_toArray, List.set_cons_zero, List.set_cons_succ])
            refine wpAnyH_take (i := 20) (oi := ⟨some 65, Op.binOp BinOp.gtr 3 (Operand.tmp 64) (Operand.const (Value.int IntKind.i64 1000000)) 3, 4, _, _, some (17, false)⟩) (v := ?vb1420) rfl (by kernel_rfl) (by kernel_rfl) (by kernel_rfl) (fun _ _ _ h => h) (Or.inl ⟨by rfl, ?hb1420⟩) hS15 ?rb1420
            case hb1420 => (intro wz hSw; go_simp <;> with_reducible rfl)
            (try simp only [Act.put, List.setIfInBounds_toArray, List.set_cons_zero, List.set_cons_succ])
            refine wpAnyH_take (i := 21) (oi := ⟨some 66, Op.pick (Operand.tmp 62) (Operand.const (Value.bool true)) (Operand.tmp 65), 4, _, _, none⟩) (v := ?vb1421) rfl (by kernel_rfl) (by kernel_rfl) (by kernel_rfl) (fun _ _ _ h => h) (Or.inl ⟨by rfl, ?hb1421⟩) hS15 ?rb1421
            case hb1421 => (intro wz hSw; go_simp <;> with_reducible rfl)
            (try simp only [Act.put, List.setIfInBounds_toArray, List.set_cons_zero, List.set_cons_succ])
            refine wpAnyH_take (i := 22) (oi := ⟨some 67, Op.move (Operand.tmp 66), 4, _, _, none⟩) (v := ?vb1422) rfl (by kernel_rfl) (by kernel_rfl) (by kernel_rfl) (fun _ _ _ h => h) (Or.inl ⟨by rfl, ?hb1422⟩) hS15 ?rb1422
            case hb1422 => (intro wz hSw; go_simp <;> with_reducible rfl)
            (try simp only [Act.put, List.setIfInBounds_toArray, List.set_cons_zero, List.set_cons_succ])
            refine wpAnyH_take (i := 23) (oi := ⟨some 68, Op.fieldAddr 37 (Operand.tmp 6) 3, 0, _, _, some (22, false)⟩) (v := ?vb1423) rfl (by kernel_rfl) (by kernel_rfl) (by kernel_rfl) (fun _ _ _ h => h) (Or.inl ⟨by rfl, ?hb1423⟩) hS15 ?rb1423
            case hb1423 => (intro wz hSw; go_simp <;> with_reducible rfl)
            (try simp only [Act.put, List.setIfInBounds_toArray, List.set_cons_zero, List.set_cons_succ])
            refine wpAnyH_take (i := 24) (oi := ⟨some 69, Op.load 3 (Operand.tmp 68), 3, _, _, some (22, false)⟩) (v := ?vb1424) rfl (by kernel_rfl) (by kernel_rfl) (by kernel_rfl) (fun _ _ _ h => h) (Or.inl ⟨by rfl, ?hb1424⟩) hS15 ?rb1424
            case hb1424 => (intro wz hSw; obtain ⟨d0, ⟨c0, c1, c2, c3, c4, c5, c6, c7⟩, e0, e1, e2, e3, e4, e5, e6, e7⟩ := HC9.out wz hSw; rw [HAa.out] at d0; go_simp <;> with_reducible rfl)
            (try simp only [Act.put, List.setIfInBounds_toArray, List.set_cons_zero, List.set_cons_succ])
            refine wpAnyH_take (i := 25) (oi := ⟨some 70, Op.binOp BinOp.lss 3 (Operand.tmp 69) (Operand.const (Value.int IntKind.i64 1)) 3, 4, _, _, some (22, false)⟩) (v := ?vb1425) rfl (by kernel_rfl) (by kernel_rfl) (by kernel_rfl) (fun _ _ _ h => h) (Or.inl ⟨by rfl, ?hb1425⟩) hS15 ?rb1425
            case hb1425 => (intro wz hSw; go_simp <;> with_reducible rfl)
            (try simp only [Act.put, List.setIfInBounds_toArray, List.set_cons_zero, List.set_cons_succ])
            refine wpAnyH_take (i := 26) (oi := ⟨some 71, Op.pick (Operand.tmp 67) (Operand.const (Value.bool true)) (Operand.tmp 70), 4, _, _, none⟩) (v := ?vb1426) rfl (by kernel_rfl) (by kernel_rfl) (by kernel_rfl) (fun _ _ _ h => h) (Or.inl ⟨by rfl, ?hb1426⟩) hS15 ?rb1426
            case hb1426 => (intro wz hSw; go_simp <;> with_reducible rfl)
            (try simp only [Act.put, List.setIfInBounds_toArray, List.set_cons_zero, List.set_cons_succ])
            refine wpAnyH_take (i := 27) (oi := ⟨some 72, Op.move (Operand.tmp 71), 4, _, _, none⟩) (v := ?vb1427) rfl (by kernel_rfl) (by kernel_rfl) (by kernel_rfl) (fun _ _ _ h => h) (Or.inl ⟨by rfl, ?hb1427⟩) hS15 ?rb1427
            case hb1427 => (intro wz hSw; go_simp <;> with_reducible rfl)
            (try simp only [Act.put, List.setIfInBounds_toArray, List.set_cons_zero, List.set_cons_succ])
            refine wpAnyH_take (i := 28) (oi := ⟨some 73, Op.fieldAddr 37 (Operand.tmp 6) 7, 0, _, _, some (27, false)⟩) (v := ?vb1428) rfl (by kernel_rfl) (by kernel_rfl) (by kernel_rfl) (fun _ _ _ h => h) (Or.inl ⟨by rfl, ?hb1428⟩) hS15 ?rb1428
            case hb1428 => (intro wz hSw; go_simp <;> with_reducible rfl)
            (try simp only [Act.put, List.setIfInBounds_toArray, List.set_cons_zero, List.set_cons_succ])
            refine wpAnyH_take (i := 29) (oi := ⟨some 74, Op.load 35 (Operand.tmp 73), 35, _, _, some (27, false)⟩) (v := ?vb1429) rfl (by kernel_rfl) (by kernel_rfl) (by kernel_rfl) (fun _ _ _ h => h) (Or.inl ⟨by rfl, ?hb1429⟩) hS15 ?rb1429
            case hb1429 => (intro wz hSw; obtain ⟨d0, ⟨c0, c1, c2, c3, c4, c5, c6, c7⟩, e0, e1, e2, e3, e4, e5, e6, e7⟩ := HC9.out wz hSw; rw [HAa.out] at d0; go_simp <;> with_reducible rfl)
            (try simp only [Act.put, List.setIfInBounds_toArray, List.set_cons_zero, List.set_cons_succ])
            refine wpAnyH_take (i := 30) (oi := ⟨some 75, Op.call { callee := Callee.builtin Builtin.len, args := #[Operand.tmp 74], argTypes := #[35] }, 3, _, _, some (27, false)⟩) (v := ?vb1430) rfl (by kernel_rfl) (by kernel_rfl) (by kernel_rfl) (fun _ _ _ h => h) (Or.inl ⟨by rfl, ?hb1430⟩) hS15 ?rb1430
            case hb1430 => (intro wz hSw; go_simp <;> with_reducible rfl)
            (try simp only [Act.put, List.setIfInBounds_toArray, List.set_cons_zero, List.set_cons_succ])
            refine wpAnyH_take (i := 31) (oi := ⟨some 76, Op.binOp BinOp.lss 3 (Operand.tmp 75) (Operand.const (Value.int IntKind.i64 1)) 3, 4, _, _, some (27, false)⟩) (v := ?vb1431) rfl (by kernel_rfl) (by kernel_rfl) (by kernel_rfl) (fun _ _ _ h => h) (Or.inl ⟨by rfl, ?hb1431⟩) hS15 ?rb1431
            case hb1431 => (intro wz hSw; go_simp <;> with_reducible rfl)
            (try simp only [Act.put, List.setIfInBounds_toArray, List.set_cons_zero, List.set_cons_succ])
            refine wpAnyH_take (i := 32) (oi := ⟨some 77, Op.pick (Operand.tmp 72) (Operand.const (Value.bool true)) (Operand.tmp 76), 4, _, _, none⟩) (v := ?vb1432) rfl (by kernel_rfl) (by kernel_rfl) (by kernel_rfl) (fun _ _ _ h => h) (Or.inl ⟨by rfl, ?hb1432⟩) hS15 ?rb1432
            case hb1432 => (intro wz hSw; go_simp <;> with_reducible rfl)
            (try simp only [Act.put, List.setIfInBounds_toArray, List.set_cons_zero, List.set_cons_succ])
            refine wpAnyH_done (by kernel_rfl) ?_ _
            refine NoPanic.normal ?_
            have HB10 := Lib.hid hS15
            clear hq1 hq2 hq3 hq4
            go_wp2
            generalize u15 = v10 at *
            go_loopg [8] a.eff.length (fun m8 s8 wr => ∃ j : Nat, j ≤ a.eff.length ∧ m8 = a.eff.length - j ∧ s8 = .int .i64 (j : Int) ∧ Hid (Below v9.heap.size v9 wr))
            case atStart => exact ⟨0, by omega, rfl, rfl, HB10⟩
            case round =>
              obtain ⟨j, hj, rfl, rfl, HWq⟩ := hrel
              obtain ⟨d0, _, e0, e1, e2, e3, e4, e5, e6, e7⟩ := HC9.out wr HWq.out
              have E7 := e7
              by_cases hjn : j < a.eff.length
              · have hjl : (j : Int) < a.eff.length := by omega
                have HJ := Lib.hid (show j + 1 ≤ a.eff.length from hjn)
                have HJb : Hid ((j : Int) ≤ 1000) := Lib.hid (by have := HSm.out.effs a HMem.out; omega)
                obtain ⟨t, ht⟩ : ∃ t, a.eff[j]? = some t := ⟨_, List.getElem?_eq_getElem hjn⟩
                obtain ⟨p', off', hA', hpl', _⟩ := rowEf HRE.out ht (Below.refl _ v9) (Nat.le_refl _)
                have HCe : Hid (∀ wz, Below v9.heap.size v9 wz → wz.cell? ⟨p', off' + j * 3, none⟩ = some (.int .i64 t.kind) ∧ wz.cell? ⟨p', off' + j * 3 + 1, none⟩ = some (.int .i64 t.amount) ∧ wz.cell? ⟨p', off' + j * 3 + 2, none⟩ = some (.int .i64 t.aura)) := Lib.hid (fun wz hz => by
                  obtain ⟨p2, off2, hA2, _, q⟩ := rowEf HRE.out ht hz (Nat.le_refl _)
                  rw [hA'] at hA2; injection hA2 with e; injection e with e1 e2; subst e1; subst e2
                  exact q)
                have HOk := Lib.hid ((HN.out.abs a HMem.out).2.2.2.2.2.2 t (List.mem_of_getElem? ht))
                obtain ⟨q, x, hf⟩ := fd_ex Au.id zAu c.au t.aura
                have HF := Lib.hid hf
                have HAe := Lib.hid hA'
                clear ht hpl' hA' hf
                rw [HAe.out] at e7
                go_wp2
                have hS0 : Below v9.heap.size v9 wr.drew := HWq.out.drew
                refine wp_region_noPanic ?_
                refine wp_region_held_drew (S := fun w' => Below v9.heap.size v9 w') (by kernel_rfl) hS0 (fun _ => ?_)
                generalize wr.drew = v0 at hS0 ⊢
                refine wpAnyH_take (i := 0) (oi := ⟨some 86, Op.load 31 (Operand.tmp 1), 31, _, _, none⟩) (v := ?vc160) rfl (by kernel_rfl) (by kernel_rfl) (by kernel_rfl) (fun _ _ _ h => h) (Or.inl ⟨by rfl, ?hc160⟩) hS0 ?rc160
                case hc160 => (intro wz hSw; obtain ⟨d0, d1, d2, d3, d4, d5, d6, d7, d8, d9, _⟩ := HC.out wz (bstep hSw HB9.out); obtain ⟨_, _, e0, e1, e2, e3, e4, e5, e6, e7⟩ := HC9.out wz hSw; rw [HAe.out] at e7; obtain ⟨x0, x1, x2⟩ := HCe.out wz hSw; go_simp <;> with_reducible rfl)
                (try simp only [Act.put, List.setIfInBounds_toArray, List.set_cons_zero, List.set_cons_succ])
                refine wpAnyH_take (i := 1) (oi := ⟨some 87, Op.fieldAddr 37 (Operand.tmp 6) 7, 0, _, _, none⟩) (v := ?vc161) rfl (by kernel_rfl) (by kernel_rfl) (by kernel_rfl) (fun _ _ _ h => h) (Or.inl ⟨by rfl, ?hc161⟩) hS0 ?rc161
                case hc161 => (intro wz hSw; go_simp <;> with_reducible rfl)
                (try simp only [Act.put, List.setIfInBounds_toArray, List.set_cons_zero, List.set_cons_succ])
                refine wpAnyH_take (i := 2) (oi := ⟨some 88, Op.load 35 (Operand.tmp 87), 35, _, _, none⟩) (v := ?vc162) rfl (by kernel_rfl) (by kernel_rfl) (by kernel_rfl) (fun _ _ _ h => h) (Or.inl ⟨by rfl, ?hc162⟩) hS0 ?rc162
                case hc162 => (intro wz hSw; obtain ⟨d0, d1, d2, d3, d4, d5, d6, d7, d8, d9, _⟩ := HC.out wz (bstep hSw HB9.out); obtain ⟨_, _, e0, e1, e2, e3, e4, e5, e6, e7⟩ := HC9.out wz hSw; rw [HAe.out] at e7; obtain ⟨x0, x1, x2⟩ := HCe.out wz hSw; go_simp <;> with_reducible rfl)
                (try simp only [Act.put, List.setIfInBounds_toArray, List.set_cons_zero, List.set_cons_succ])
                refine wpAnyH_take (i := 3) (oi := ⟨some 89, Op.move (Operand.tmp 8), 3, _, _, none⟩) (v := ?vc163) rfl (by kernel_rfl) (by kernel_rfl) (by kernel_rfl) (fun _ _ _ h => h) (Or.inl ⟨by rfl, ?hc163⟩) hS0 ?rc163
                case hc163 => (intro wz hSw; go_simp <;> with_reducible rfl)
                (try simp only [Act.put, List.setIfInBounds_toArray, List.set_cons_zero, List.set_cons_succ])
                refine wpAnyH_take (i := 4) (oi := ⟨some 90, Op.indexAddr 35 (Operand.tmp 88) (Operand.tmp 89), 0, _, _, none⟩) (v := ?vc164) rfl (by kernel_rfl) (by kernel_rfl) (by kernel_rfl) (fun _ _ _ h => h) (Or.inl ⟨by rfl, ?hc164⟩) hS0 ?rc164
                case hc164 => (intro wz hSw; go_simp <;> with_reducible rfl)
                (try simp only [Act.put, List.setIfInBounds_toArray, List.set_cons_zero, List.set_cons_succ])
                refine wpAnyH_take (i := 5) (oi := ⟨some 91, Op.fieldAddr 56 (Operand.tmp 90) 2, 0, _, _, none⟩) (v := ?vc165) rfl (by kernel_rfl) (by kernel_rfl) (by kernel_rfl) (fun _ _ _ h => h) (Or.inl ⟨by rfl, ?hc165⟩) hS0 ?rc165
                case hc165 => (intro wz hSw; go_simp <;> with_reducible rfl)
                (try simp only [Act.put, List.setIfInBounds_toArray, List.set_cons_zero, List.set_cons_succ])
                refine wpAnyH_take (i := 6) (oi := ⟨some 92, Op.load 3 (Operand.tmp 91), 3, _, _, none⟩) (v := ?vc166) rfl (by kernel_rfl) (by kernel_rfl) (by kernel_rfl) (fun _ _ _ h => h) (Or.inl ⟨by rfl, ?hc166⟩) hS0 ?rc166
                case hc166 => (intro wz hSw; obtain ⟨d0, d1, d2, d3, d4, d5, d6, d7, d8, d9, _⟩ := HC.out wz (bstep hSw HB9.out); obtain ⟨_, _, e0, e1, e2, e3, e4, e5, e6, e7⟩ := HC9.out wz hSw; rw [HAe.out] at e7; obtain ⟨x0, x1, x2⟩ := HCe.out wz hSw; go_simp <;> with_reducible rfl)
                (try simp only [Act.put, List.setIfInBounds_toArray, List.set_cons_zero, List.set_cons_succ])
                refine wpAnyH_ready (rs := [7, 11]) (by kernel_rfl) (by simp) ?_
                refine AllReadyH.cons (o := ⟨some 93, Op.call { callee := Callee.value (Operand.func 10), args := #[Operand.tmp 86, Operand.tmp 92], argTypes := #[31, 3] }, 42, _, _, none⟩) rfl (fun K hK => ?_) (AllReadyH.cons (o := ⟨some 9, Op.alloc 41, 0, _, _, none⟩) rfl (fun K hK => ?_) AllReadyH.nil)
                · go_simp
                  (with_reducible refine (aura_any (HR.out.below (bstep hS0 HB9.out) HBV.out) (Nat.le_trans HBV.out (bstep hS0 HB9.out).size) HSm.out t.aura q x HF.out).mono ?_); rintro e v17 ⟨rfl, hB17⟩; have hS17 := bstep hB17 hS0
                  refine hK.out _ _ hS17 (fun _ => ?_)
                  clear hK K
                  (try simp only [Act.put, List.setIfInBounds_toArray, List.set_cons_zero, List.set_cons_succ])
                  refine wpAnyH_take (i := 8) (oi := ⟨some 85, Op.move (Operand.tmp 93), 42, _, _, none⟩) (v := ?vc16b78) rfl (by kernel_rfl) (by kernel_rfl) (by kernel_rfl) (fun _ _ _ h => h) (Or.inl ⟨by rfl, ?hc16b78⟩) hS17 ?rc16b78
                  case hc16b78 => (intro wz hSw; go_simp <;> with_reducible rfl)
                  (try simp only [Act.put, List.setIfInBounds_toArray, List.set_cons_zero, List.set_cons_succ])
                  refine wpAnyH_take (i := 9) (oi := ⟨some 94, Op.extract (Operand.tmp 85) 0, 41, _, _, none⟩) (v := ?vc16b79) rfl (by kernel_rfl) (by kernel_rfl) (by kernel_rfl) (fun _ _ _ h => h) (Or.inl ⟨by rfl, ?hc16b79⟩) hS17 ?rc16b79
                  case hc16b79 => (intro wz hSw; go_simp <;> with_reducible rfl)
                  (try simp only [Act.put, List.setIfInBounds_toArray, List.set_cons_zero, List.set_cons_succ])
                  refine wpAnyH_take (i := 10) (oi := ⟨some 95, Op.extract (Operand.tmp 85) 1, 4, _, _, none⟩) (v := ?vc16b710) rfl (by kernel_rfl) (by kernel_rfl) (by kernel_rfl) (fun _ _ _ h => h) (Or.inl ⟨by rfl, ?hc16b710⟩) hS17 ?rc16b710
                  case hc16b710 => (intro wz hSw; go_simp <;> with_reducible rfl)
                  (try simp only [Act.put, List.setIfInBounds_toArray, List.set_cons_zero, List.set_cons_succ])
                  refine wpAnyH_ready (rs := [11]) (by kernel_rfl) (by simp) ?_
                  refine AllReadyH.cons (o := ⟨some 9, Op.alloc 41, 0, _, _, none⟩) rfl (fun K hK => ?_) AllReadyH.nil
                  go_simp
                  have hZ18 := heap_alloc_new v17 zcAu; have hge := hS17.size; have hS18 := hS17.alloc hS17.size zcAu; have hsz : v17.heap.size < (v17.alloc zcAu).heap.size := (by simp); clear hsz; generalize hP : v17.heap.size = P14 at hZ18 hge ⊢; generalize hV : v17.alloc zcAu = v18 at hZ18 hS18 ⊢; clear hP hV
                  refine hK.out _ _ hS18 (fun _ => ?_)
                  clear hK K
                  (try simp only [Act.put, List.setIfInBounds_toArray, List.set_cons_zero, List.set_cons_succ])
                  refine wpAnyH_ready (rs := [12]) (by kernel_rfl) (by simp) ?_
                  refine AllReadyH.cons (o := ⟨none, Op.store 41 (Operand.tmp 9) (Operand.tmp 94), 0, _, _, none⟩) rfl (fun K hK => ?_) AllReadyH.nil
                  have z := cell_of hZ18; have y := froz_of hZ18
                  go_simp
                  rw [seven0]; have hS19 := below_setCells P14 hge [.int .i64 q.id, .int .i64 q.kind, .int .i64 q.ticks, .int .i64 q.every, .int .i64 q.stacks, .int .i64 q.amount, .bool q.harm] 0 v18 hS18; clear z y; generalize hN : World.setCells v18 P14 0 _ = v19 at hS19 ⊢; clear hN
                  refine hK.out _ _ hS19 (fun _ => ?_)
                  clear hK K
                  (try simp only [Act.put, List.setIfInBounds_toArray, List.set_cons_zero, List.set_cons_succ])
                  refine wpAnyH_take (i := 13) (oi := ⟨some 10, Op.assign (Operand.tmp 95), 4, _, _, none⟩) (v := ?vc16b713) rfl (by kernel_rfl) (by kernel_rfl) (by kernel_rfl) (fun _ _ _ h => h) (Or.inl ⟨by rfl, ?hc16b713⟩) hS19 ?rc16b713
                  case hc16b713 => (intro wz hSw; go_simp <;> with_reducible rfl)
                  (try simp only [Act.put, List.setIfInBounds_toArray, List.set_cons_zero, List.set_cons_succ])
                  refine wpAnyH_done (by kernel_rfl) ?_ _
                  refine NoPanic.normal ?_
                  have HB14 := Lib.hid hS19
                  obtain ⟨_, _, e0, e1, e2, e3, e4, e5, e6, e7⟩ := HC9.out _ HB14.out
                  rw [HAe.out] at e7
                  obtain ⟨x0, x1, x2⟩ := HCe.out _ HB14.out
                  clear hge
                  by_cases hk4 : t.kind = 4
                  · have hk5 : (t.kind == 4) = true := by simpa using hk4
                    have hxt : x = true := by
                      rcases HOk.out with ⟨_, _, h⟩ | ⟨h, _⟩
                      · exact (fd_has HF.out).2 h
                      · exact absurd hk4 h
                    subst hxt
                    clear hk4
                    go_wp2
                    go_roundg (a.eff.length - (j + 1))
                    case measure => have := HJ.out; omega
                    case rel => have hb9 := HJb.out; exact ⟨j + 1, HJ.out, rfl, (by first | exact nx hb9 | go_num), HB14⟩
                  · have hk5 : (t.kind == 4) = false := by simpa using hk4
                    clear hk4
                    go_wp2
                    go_roundg (a.eff.length - (j + 1))
                    case measure => have := HJ.out; omega
                    case rel => have hb9 := HJb.out; exact ⟨j + 1, HJ.out, rfl, (by first | exact nx hb9 | go_num), HB14⟩
                · go_simp
                  have hZ20 := heap_alloc_new v0 zcAu; have hge := hS0.size; have hS20 := hS0.alloc hS0.size zcAu; have hsz : v0.heap.size < (v0.alloc zcAu).heap.size := (by simp); clear hsz; generalize hP : v0.heap.size = P14 at hZ20 hge ⊢; generalize hV : v0.alloc zcAu = v20 at hZ20 hS20 ⊢; clear hP hV
                  refine hK.out _ _ hS20 (fun _ => ?_)
                  clear hK K
                  (try simp only [Act.put, List.setIfInBounds_toArray, List.set_cons_zero, List.set_cons_succ])
                  refine wpAnyH_ready (rs := [7]) (by kernel_rfl) (by simp) ?_
                  refine AllReadyH.cons (o := ⟨some 93, Op.call { callee := Callee.value (Operand.func 10), args := #[Operand.tmp 86, Operand.tmp 92], argTypes := #[31, 3] }, 42, _, _, none⟩) rfl (fun K hK => ?_) AllReadyH.nil
                  go_simp
                  (with_reducible refine (aura_any (HR.out.below (bstep hS20 HB9.out) HBV.out) (Nat.le_trans HBV.out (bstep hS20 HB9.out).size) HSm.out t.aura q x HF.out).mono ?_); rintro e v21 ⟨rfl, hB21⟩; have hS21 := bstep hB21 hS20; have hZ21 := (hB21.block _ (lt_of_heap hZ20)).trans hZ20
                  refine hK.out _ _ hS21 (fun _ => ?_)
                  clear hK K
                  (try simp only [Act.put, List.setIfInBounds_toArray, List.set_cons_zero, List.set_cons_succ])
                  refine wpAnyH_take (i := 8) (oi := ⟨some 85, Op.move (Operand.tmp 93), 42, _, _, none⟩) (v := ?vc16b118) rfl (by kernel_rfl) (by kernel_rfl) (by kernel_rfl) (fun _ _ _ h => h) (Or.inl ⟨by rfl, ?hc16b118⟩) hS21 ?rc16b118
                  case hc16b118 => (intro wz hSw; go_simp <;> with_reducible rfl)
                  (try simp only [Act.put, List.setIfInBounds_toArray, List.set_cons_zero, List.set_cons_succ])
                  refine wpAnyH_take (i := 9) (oi := ⟨some 94, Op.extract (Operand.tmp 85) 0, 41, _, _, none⟩) (v := ?vc16b119) rfl (by kernel_rfl) (by kernel_rfl) (by kernel_rfl) (fun _ _ _ h => h) (Or.inl ⟨by rfl, ?hc16b119⟩) hS21 ?rc16b119
                  case hc16b119 => (intro wz hSw; go_simp <;> with_reducible rfl)
                  (try simp only [Act.put, List.setIfInBounds_toArray, List.set_cons_zero, List.set_cons_succ])
                  refine wpAnyH_take (i := 10) (oi := ⟨some 95, Op.extract (Operand.tmp 85) 1, 4, _, _, none⟩) (v := ?vc16b1110) rfl (by kernel_rfl) (by kernel_rfl) (by kernel_rfl) (fun _ _ _ h => h) (Or.inl ⟨by rfl, ?hc16b1110⟩) hS21 ?rc16b1110
                  case hc16b1110 => (intro wz hSw; go_simp <;> with_reducible rfl)
                  (try simp only [Act.put, List.setIfInBounds_toArray, List.set_cons_zero, List.set_cons_succ])
                  refine wpAnyH_ready (rs := [12]) (by kernel_rfl) (by simp) ?_
                  refine AllReadyH.cons (o := ⟨none, Op.store 41 (Operand.tmp 9) (Operand.tmp 94), 0, _, _, none⟩) rfl (fun K hK => ?_) AllReadyH.nil
                  have z := cell_of hZ21; have y := froz_of hZ21
                  go_simp
                  rw [seven0]; have hS22 := below_setCells P14 hge [.int .i64 q.id, .int .i64 q.kind, .int .i64 q.ticks, .int .i64 q.every, .int .i64 q.stacks, .int .i64 q.amount, .bool q.harm] 0 v21 hS21; clear z y; generalize hN : World.setCells v21 P14 0 _ = v22 at hS22 ⊢; clear hN
                  refine hK.out _ _ hS22 (fun _ => ?_)
                  clear hK K
                  (try simp only [Act.put, List.setIfInBounds_toArray, List.set_cons_zero, List.set_cons_succ])
                  refine wpAnyH_take (i := 13) (oi := ⟨some 10, Op.assign (Operand.tmp 95), 4, _, _, none⟩) (v := ?vc16b1113) rfl (by kernel_rfl) (by kernel_rfl) (by kernel_rfl) (fun _ _ _ h => h) (Or.inl ⟨by rfl, ?hc16b1113⟩) hS22 ?rc16b1113
                  case hc16b1113 => (intro wz hSw; go_simp <;> with_reducible rfl)
                  (try simp only [Act.put, List.setIfInBounds_toArray, List.set_cons_zero, List.set_cons_succ])
                  refine wpAnyH_done (by kernel_rfl) ?_ _
                  refine NoPanic.normal ?_
                  have HB14 := Lib.hid hS22
                  obtain ⟨_, _, e0, e1, e2, e3, e4, e5, e6, e7⟩ := HC9.out _ HB14.out
                  rw [HAe.out] at e7
                  obtain ⟨x0, x1, x2⟩ := HCe.out _ HB14.out
                  clear hge
                  by_cases hk4 : t.kind = 4
                  · have hk5 : (t.kind == 4) = true := by simpa using hk4
                    have hxt : x = true := by
                      rcases HOk.out with ⟨_, _, h⟩ | ⟨h, _⟩
                      · exact (fd_has HF.out).2 h
                      · exact absurd hk4 h
                    subst hxt
                    clear hk4
                    go_wp2
                    go_roundg (a.eff.length - (j + 1))
                    case measure => have := HJ.out; omega
                    case rel => have hb9 := HJb.out; exact ⟨j + 1, HJ.out, rfl, (by first | exact nx hb9 | go_num), HB14⟩
                  · have hk5 : (t.kind == 4) = false := by simpa using hk4
                    clear hk4
                    go_wp2
                    go_roundg (a.eff.length - (j + 1))
                    case measure => have := HJ.out; omega
                    case rel => have hb9 := HJb.out; exact ⟨j + 1, HJ.out, rfl, (by first | exact nx hb9 | go_num), HB14⟩
              · have hjl : decide ((j : Int) < a.eff.length) = false := by simp; omega
                have HWr := Lib.hid (bstep HWq.out HB9.out)
                go_wp2
                go_roundg (c.ab.length - (k + 1))
                case measure => have := HK.out; omega
                case rel => have hb9 := HKb.out; exact ⟨k + 1, HK.out, rfl, (by first | exact nx hb9 | go_num), HWr⟩
          · go_simp
            have hZ23 := heap_alloc_new v0 zcAb; have hge := hS0.size; have hS23 := hS0.alloc hS0.size zcAb; have hsz : v0.heap.size < (v0.alloc zcAb).heap.size := (by simp); clear hsz; generalize hP : v0.heap.size = P at hZ23 hge ⊢; generalize hV : v0.alloc zcAb = v23 at hZ23 hS23 ⊢; clear hP hV
            refine hK.out _ _ hS23 (fun _ => ?_)
            clear hK K
            (try simp only [Act.put, List.setIfInBounds_toArray, List.set_cons_zero, List.set_cons_succ])
            refine wpAnyH_ready (rs := [7]) (by kernel_rfl) (by simp) ?_
            refine AllReadyH.cons (o := ⟨some 42, Op.call { callee := Callee.value (Operand.func 8), args := #[Operand.tmp 35, Operand.tmp 41], argTypes := #[31, 3] }, 38, _, _, none⟩) rfl (fun K hK => ?_) AllReadyH.nil
            go_simp
            (with_reducible refine (ability_any (HR.out.below hS23 HBV.out) (Nat.le_trans HBV.out hS23.size) HSm.out a.id a true HFD.out).mono ?_); rintro e v24 ⟨A', c', rfl, HO, hB24⟩; have hS24 := bstep hB24 hS23; have hlt24 := lt_of_heap hZ23; have hZ24 := (hB24.block _ hlt24).trans hZ23; have hE24_0 := rw_old (HO.out.pw) hlt24
            refine hK.out _ _ hS24 (fun _ => ?_)
            clear hK K
            (try simp only [Act.put, List.setIfInBounds_toArray, List.set_cons_zero, List.set_cons_succ])
            refine wpAnyH_take (i := 8) (oi := ⟨some 34, Op.move (Operand.tmp 42), 38, _, _, none⟩) (v := ?vab118) rfl (by kernel_rfl) (by kernel_rfl) (by kernel_rfl) (fun _ _ _ h => h) (Or.inl ⟨by rfl, ?hab118⟩) hS24 ?rab118
            case hab118 => (intro wz hSw; go_simp <;> with_reducible rfl)
            (try simp only [Act.put, List.setIfInBounds_toArray, List.set_cons_zero, List.set_cons_succ])
            refine wpAnyH_take (i := 9) (oi := ⟨some 43, Op.extract (Operand.tmp 34) 0, 37, _, _, none⟩) (v := ?vab119) rfl (by kernel_rfl) (by kernel_rfl) (by kernel_rfl) (fun _ _ _ h => h) (Or.inl ⟨by rfl, ?hab119⟩) hS24 ?rab119
            case hab119 => (intro wz hSw; go_simp <;> with_reducible rfl)
            (try simp only [Act.put, List.setIfInBounds_toArray, List.set_cons_zero, List.set_cons_succ])
            refine wpAnyH_take (i := 10) (oi := ⟨some 44, Op.extract (Operand.tmp 34) 1, 4, _, _, none⟩) (v := ?vab1110) rfl (by kernel_rfl) (by kernel_rfl) (by kernel_rfl) (fun _ _ _ h => h) (Or.inl ⟨by rfl, ?hab1110⟩) hS24 ?rab1110
            case hab1110 => (intro wz hSw; go_simp <;> with_reducible rfl)
            (try simp only [Act.put, List.setIfInBounds_toArray, List.set_cons_zero, List.set_cons_succ])
            refine wpAnyH_ready (rs := [12]) (by kernel_rfl) (by simp) ?_
            refine AllReadyH.cons (o := ⟨none, Op.store 37 (Operand.tmp 6) (Operand.tmp 43), 0, _, _, none⟩) rfl (fun K hK => ?_) AllReadyH.nil
            have z := cell_of hZ24; have y := froz_of hZ24
            go_simp
            rw [eight0]; have hPZ := put8 hZ24 (.int .i64 a.id) (.int .i64 a.cast) (.int .i64 a.cool) (.int .i64 a.charges) (.int .i64 a.range) (.int .i64 a.cost) (.bool a.sight) (.slice A' a.eff.length c'); have hS25 := below_setCells P hge [.int .i64 a.id, .int .i64 a.cast, .int .i64 a.cool, .int .i64 a.charges, .int .i64 a.range, .int .i64 a.cost, .bool a.sight, .slice A' a.eff.length c'] 0 v24 hS24; have hRE0 := hE24_0 0 [.int .i64 a.id, .int .i64 a.cast, .int .i64 a.cool, .int .i64 a.charges, .int .i64 a.range, .int .i64 a.cost, .bool a.sight, .slice A' a.eff.length c']; clear z y; generalize hN : World.setCells v24 P 0 _ = v25 at hPZ hS25 hRE0 ⊢; clear hN
            refine hK.out _ _ hS25 (fun _ => ?_)
            clear hK K
            (try simp only [Act.put, List.setIfInBounds_toArray, List.set_cons_zero, List.set_cons_succ])
            refine wpAnyH_take (i := 13) (oi := ⟨some 7, Op.assign (Operand.tmp 44), 4, _, _, none⟩) (v := ?vab1113) rfl (by kernel_rfl) (by kernel_rfl) (by kernel_rfl) (fun _ _ _ h => h) (Or.inl ⟨by rfl, ?hab1113⟩) hS25 ?rab1113
            case hab1113 => (intro wz hSw; go_simp <;> with_reducible rfl)
            (try simp only [Act.put, List.setIfInBounds_toArray, List.set_cons_zero, List.set_cons_succ])
            refine wpAnyH_done (by kernel_rfl) ?_ _
            refine NoPanic.normal ?_
            have HB9 := Lib.hid hS25; have HPZ : Hid (v25.heap[P]? = some (oAb (a.re A' c'))) := Lib.hid hPZ; have HRE := Lib.hid hRE0
            clear hPZ hRE0 hge
            have HRa : Hid (RW ef v25 v25.heap.size a.ea a.eff) := Lib.hid (((HR.out.effs a HMem.out).below HB9.out HBV.out).more (Nat.le_trans HBV.out HB9.out.size))
            have HC9 : Hid (∀ wz, Below v25.heap.size v25 wz → wz.cell? ⟨W.heap.size, 0, none⟩ = some (.slice c.aA c.ab.length c.aC) ∧ (wz.cell? ⟨p, off + k * 8, none⟩ = some (.int .i64 a.id) ∧ wz.cell? ⟨p, off + k * 8 + 1, none⟩ = some (.int .i64 a.cast) ∧ wz.cell? ⟨p, off + k * 8 + 2, none⟩ = some (.int .i64 a.cool) ∧ wz.cell? ⟨p, off + k * 8 + 3, none⟩ = some (.int .i64 a.charges) ∧ wz.cell? ⟨p, off + k * 8 + 4, none⟩ = some (.int .i64 a.range) ∧ wz.cell? ⟨p, off + k * 8 + 5, none⟩ = some (.int .i64 a.cost) ∧ wz.cell? ⟨p, off + k * 8 + 6, none⟩ = some (.bool a.sight) ∧ wz.cell? ⟨p, off + k * 8 + 7, none⟩ = some (.slice a.ea a.eff.length a.ec)) ∧ wz.cell? ⟨P, 0, none⟩ = some (.int .i64 a.id) ∧ wz.cell? ⟨P, 1, none⟩ = some (.int .i64 a.cast) ∧ wz.cell? ⟨P, 2, none⟩ = some (.int .i64 a.cool) ∧ wz.cell? ⟨P, 3, none⟩ = some (.int .i64 a.charges) ∧ wz.cell? ⟨P, 4, none⟩ = some (.int .i64 a.range) ∧ wz.cell? ⟨P, 5, none⟩ = some (.int .i64 a.cost) ∧ wz.cell? ⟨P, 6, none⟩ = some (.bool a.sight) ∧ wz.cell? ⟨P, 7, none⟩ = some (.slice A' a.eff.length c')) := Lib.hid (fun wz hz => by
              obtain ⟨d0, d1, d2, d3, d4, d5, d6, d7, d8, d9, q⟩ := HC.out wz (bstep hz HB9.out)
              have g := oAb_cells ((hz.block _ (lt_of_heap HPZ.out)).trans HPZ.out)
              rw [HAa.out] at d0
              exact ⟨by rw [HAa.out]; exact d0, q, g⟩)
            generalize v25 = v9 at *
            clear HPZ
            go_wp2
            obtain ⟨hq1, hq2, hq3, hq4⟩ := HQ.out
            have hS0 : Below v9.heap.size v9 v9.drew := (Below.refl _ _).drew
            refine wp_region_noPanic ?_
            refine wp_region_held_drew (S := fun w' => Below v9.heap.size v9 w') (by kernel_rfl) hS0 (fun _ => ?_)
            generalize v9.drew = v0 at hS0 ⊢
            refine wpAnyH_take (i := 0) (oi := ⟨some 45, Op.move (Operand.tmp 7), 4, _, _, none⟩) (v := ?vb260) rfl (by kernel_rfl) (by kernel_rfl) (by kernel_rfl) (fun _ _ _ h => h) (Or.inl ⟨by rfl, ?hb260⟩) hS0 ?rb260
            case hb260 => (intro wz hSw; go_simp <;> with_reducible rfl)
            (try simp only [Act.put, List.setIfInBounds_toArray, List.set_cons_zero, List.set_cons_succ])
            refine wpAnyH_take (i := 1) (oi := ⟨some 46, Op.unOp UnOp.not 4 (Operand.tmp 45), 4, _, _, none⟩) (v := ?vb261) rfl (by kernel_rfl) (by kernel_rfl) (by kernel_rfl) (fun _ _ _ h => h) (Or.inl ⟨by rfl, ?hb261⟩) hS0 ?rb261
            case hb261 => (intro wz hSw; go_simp <;> with_reducible rfl)
            (try simp only [Act.put, List.setIfInBounds_toArray, List.set_cons_zero, List.set_cons_succ])
            refine wpAnyH_take (i := 2) (oi := ⟨some 47, Op.move (Operand.tmp 46), 4, _, _, none⟩) (v := ?vb262) rfl (by kernel_rfl) (by kernel_rfl) (by kernel_rfl) (fun _ _ _ h => h) (Or.inl ⟨by rfl, ?hb262⟩) hS0 ?rb262
            case hb262 => (intro wz hSw; go_simp <;> with_reducible rfl)
            (try simp only [Act.put, List.setIfInBounds_toArray, List.set_cons_zero, List.set_cons_succ])
            refine wpAnyH_take (i := 3) (oi := ⟨some 48, Op.load 37 (Operand.tmp 6), 37, _, _, some (2, false)⟩) (v := ?vb263) rfl (by kernel_rfl) (by kernel_rfl) (by kernel_rfl) (fun _ _ _ h => h) (Or.inl ⟨by rfl, ?hb263⟩) hS0 ?rb263
            case hb263 => (intro wz hSw; obtain ⟨d0, ⟨c0, c1, c2, c3, c4, c5, c6, c7⟩, e0, e1, e2, e3, e4, e5, e6, e7⟩ := HC9.out wz hSw; rw [HAa.out] at d0; go_simp <;> with_reducible rfl)
            (try simp only [Act.put, List.setIfInBounds_toArray, List.set_cons_zero, List.set_cons_succ])
            refine wpAnyH_take (i := 4) (oi := ⟨some 49, Op.fieldAddr 31 (Operand.tmp 1) 0, 0, _, _, some (2, false)⟩) (v := ?vb264) rfl (by kernel_rfl) (by kernel_rfl) (by kernel_rfl) (fun _ _ _ h => h) (Or.inl ⟨by rfl, ?hb264⟩) hS0 ?rb264
            case hb264 => (intro wz hSw; go_simp <;> with_reducible rfl)
            (try simp only [Act.put, List.setIfInBounds_toArray, List.set_cons_zero, List.set_cons_succ])
            refine wpAnyH_take (i := 5) (oi := ⟨some 50, Op.load 22 (Operand.tmp 49), 22, _, _, some (2, false)⟩) (v := ?vb265) rfl (by kernel_rfl) (by kernel_rfl) (by kernel_rfl) (fun _ _ _ h => h) (Or.inl ⟨by rfl, ?hb265⟩) hS0 ?rb265
            case hb265 => (intro wz hSw; obtain ⟨d0, ⟨c0, c1, c2, c3, c4, c5, c6, c7⟩, e0, e1, e2, e3, e4, e5, e6, e7⟩ := HC9.out wz hSw; rw [HAa.out] at d0; go_simp <;> with_reducible rfl)
            (try simp only [Act.put, List.setIfInBounds_toArray, List.set_cons_zero, List.set_cons_succ])
            refine wpAnyH_take (i := 6) (oi := ⟨some 51, Op.move (Operand.tmp 5), 3, _, _, some (2, false)⟩) (v := ?vb266) rfl (by kernel_rfl) (by kernel_rfl) (by kernel_rfl) (fun _ _ _ h => h) (Or.inl ⟨by rfl, ?hb266⟩) hS0 ?rb266
            case hb266 => (intro wz hSw; go_simp <;> with_reducible rfl)
            (try simp only [Act.put, List.setIfInBounds_toArray, List.set_cons_zero, List.set_cons_succ])
            refine wpAnyH_take (i := 7) (oi := ⟨some 52, Op.indexAddr 22 (Operand.tmp 50) (Operand.tmp 51), 0, _, _, some (2, false)⟩) (v := ?vb267) rfl (by kernel_rfl) (by kernel_rfl) (by kernel_rfl) (fun _ _ _ h => h) (Or.inl ⟨by rfl, ?hb267⟩) hS0 ?rb267
            case hb267 => (intro wz hSw; go_simp <;> with_reducible rfl)
            (try simp only [Act.put, List.setIfInBounds_toArray, List.set_cons_zero, List.set_cons_succ])
            refine wpAnyH_take (i := 8) (oi := ⟨some 53, Op.load 37 (Operand.tmp 52), 37, _, _, some (2, false)⟩) (v := ?vb268) rfl (by kernel_rfl) (by kernel_rfl) (by kernel_rfl) (fun _ _ _ h => h) (Or.inl ⟨by rfl, ?hb268⟩) hS0 ?rb268
            case hb268 => (intro wz hSw; obtain ⟨d0, ⟨c0, c1, c2, c3, c4, c5, c6, c7⟩, e0, e1, e2, e3, e4, e5, e6, e7⟩ := HC9.out wz hSw; rw [HAa.out] at d0; go_simp <;> with_reducible rfl)
            (try simp only [Act.put, List.setIfInBounds_toArray, List.set_cons_zero, List.set_cons_succ])
            refine wpAnyH_ready (rs := [9]) (by kernel_rfl) (by simp) ?_
            refine AllReadyH.cons (o := ⟨some 54, Op.call { callee := Callee.value (Operand.func 14), args := #[Operand.tmp 48, Operand.tmp 53], argTypes := #[37, 37] }, 4, _, _, some (2, false)⟩) rfl (fun K hK => ?_) AllReadyH.nil
            go_simp
            (with_reducible refine (rsameAb (a.re A' c') a (HRE.out.below hS0 (Nat.le_refl _)) (HRa.out.below hS0 (Nat.le_refl _)) hS0.size HLe.out true ⟨fun _ => rfl, fun _ => rfl⟩).mono ?_); rintro e u27 ⟨rfl, hB27⟩; have hS27 := bstep hB27 hS0
            refine hK.out _ _ hS27 (fun _ => ?_)
            clear hK K
            (try simp only [Act.put, List.setIfInBounds_toArray, List.set_cons_zero, List.set_cons_succ])
            refine wpAnyH_take (i := 10) (oi := ⟨some 55, Op.unOp UnOp.not 4 (Operand.tmp 54), 4, _, _, some (2, false)⟩) (v := ?vb2610) rfl (by kernel_rfl) (by kernel_rfl) (by kernel_rfl) (fun _ _ _ h => h) (Or.inl ⟨by rfl, ?hb2610⟩) hS27 ?rb2610
            case hb2610 => (intro wz hSw; go_simp <;> with_reducible rfl)
            (try simp only [Act.put, List.setIfInBounds_toArray, List.set_cons_zero, List.set_cons_succ])
            refine wpAnyH_take (i := 11) (oi := ⟨some 56, Op.pick (Operand.tmp 47) (Operand.const (Value.bool true)) (Operand.tmp 55), 4, _, _, none⟩) (v := ?vb2611) rfl (by kernel_rfl) (by kernel_rfl) (by kernel_rfl) (fun _ _ _ h => h) (Or.inl ⟨by rfl, ?hb2611⟩) hS27 ?rb2611
            case hb2611 => (intro wz hSw; go_simp <;> with_reducible rfl)
            (try simp only [Act.put, List.setIfInBounds_toArray, List.set_cons_zero, List.set_cons_succ])
            refine wpAnyH_take (i := 12) (oi := ⟨some 57, Op.move (Operand.tmp 56), 4, _, _, none⟩) (v := ?vb2612) rfl (by kernel_rfl) (by kernel_rfl) (by kernel_rfl) (fun _ _ _ h => h) (Or.inl ⟨by rfl, ?hb2612⟩) hS27 ?rb2612
            case hb2612 => (intro wz hSw; go_simp <;> with_reducible rfl)
            (try simp only [Act.put, List.setIfInBounds_toArray, List.set_cons_zero, List.set_cons_succ])
            refine wpAnyH_take (i := 13) (oi := ⟨some 58, Op.fieldAddr 37 (Operand.tmp 6) 1, 0, _, _, some (12, false)⟩) (v := ?vb2613) rfl (by kernel_rfl) (by kernel_rfl) (by kernel_rfl) (fun _ _ _ h => h) (Or.inl ⟨by rfl, ?hb2613⟩) hS27 ?rb2613
            case hb2613 => (intro wz hSw; go_simp <;> with_reducible rfl)
            (try simp only [Act.put, List.setIfInBounds_toArray, List.set_cons_zero, List.set_cons_succ])
            refine wpAnyH_take (i := 14) (oi := ⟨some 59, Op.load 3 (Operand.tmp 58), 3, _, _, some (12, false)⟩) (v := ?vb2614) rfl (by kernel_rfl) (by kernel_rfl) (by kernel_rfl) (fun _ _ _ h => h) (Or.inl ⟨by rfl, ?hb2614⟩) hS27 ?rb2614
            case hb2614 => (intro wz hSw; obtain ⟨d0, ⟨c0, c1, c2, c3, c4, c5, c6, c7⟩, e0, e1, e2, e3, e4, e5, e6, e7⟩ := HC9.out wz hSw; rw [HAa.out] at d0; go_simp <;> with_reducible rfl)
            (try simp only [Act.put, List.setIfInBounds_toArray, List.set_cons_zero, List.set_cons_succ])
            refine wpAnyH_take (i := 15) (oi := ⟨some 60, Op.binOp BinOp.lss 3 (Operand.tmp 59) (Operand.const (Value.int IntKind.i64 0)) 3, 4, _, _, some (12, false)⟩) (v := ?vb2615) rfl (by kernel_rfl) (by kernel_rfl) (by kernel_rfl) (fun _ _ _ h => h) (Or.inl ⟨by rfl, ?hb2615⟩) hS27 ?rb2615
            case hb2615 => (intro wz hSw; go_simp <;> with_reducible rfl)
            (try simp only [Act.put, List.setIfInBounds_toArray, List.set_cons_zero, List.set_cons_succ])
            refine wpAnyH_take (i := 16) (oi := ⟨some 61, Op.pick (Operand.tmp 57) (Operand.const (Value.bool true)) (Operand.tmp 60), 4, _, _, none⟩) (v := ?vb2616) rfl (by kernel_rfl) (by kernel_rfl) (by kernel_rfl) (fun _ _ _ h => h) (Or.inl ⟨by rfl, ?hb2616⟩) hS27 ?rb2616
            case hb2616 => (intro wz hSw; go_simp <;> with_reducible rfl)
            (try simp only [Act.put, List.setIfInBounds_toArray, List.set_cons_zero, List.set_cons_succ])
            refine wpAnyH_take (i := 17) (oi := ⟨some 62, Op.move (Operand.tmp 61), 4, _, _, none⟩) (v := ?vb2617) rfl (by kernel_rfl) (by kernel_rfl) (by kernel_rfl) (fun _ _ _ h => h) (Or.inl ⟨by rfl, ?hb2617⟩) hS27 ?rb2617
            case hb2617 => (intro wz hSw; go_simp <;> with_reducible rfl)
            (try simp only [Act.put, List.setIfInBounds_toArray, List.set_cons_zero, List.set_cons_succ])
            refine wpAnyH_take (i := 18) (oi := ⟨some 63, Op.fieldAddr 37 (Operand.tmp 6) 1, 0, _, _, some (17, false)⟩) (v := ?vb2618) rfl (by kernel_rfl) (by kernel_rfl) (by kernel_rfl) (fun _ _ _ h => h) (Or.inl ⟨by rfl, ?hb2618⟩) hS27 ?rb2618
            case hb2618 => (intro wz hSw; go_simp <;> with_reducible rfl)
            (try simp only [Act.put, List.setIfInBounds_toArray, List.set_cons_zero, List.set_cons_succ])
            refine wpAnyH_take (i := 19) (oi := ⟨some 64, Op.load 3 (Operand.tmp 63), 3, _, _, some (17, false)⟩) (v := ?vb2619) rfl (by kernel_rfl) (by kernel_rfl) (by kernel_rfl) (fun _ _ _ h => h) (Or.inl ⟨by rfl, ?hb2619⟩) hS27 ?rb2619
            case hb2619 => (intro wz hSw; obtain ⟨d0, ⟨c0, c1, c2, c3, c4, c5, c6, c7⟩, e0, e1, e2, e3, e4, e5, e6, e7⟩ := HC9.out wz hSw; rw [HAa.out] at d0; go_simp <;> with_reducible rfl)
            (try simp only [Act.put, List.setIfInBounds_toArray, List.set_cons_zero, List.set_cons_succ])
            refine wpAnyH_take (i := 20) (oi := ⟨some 65, Op.binOp BinOp.gtr 3 (Operand.tmp 64) (Operand.const (Value.int IntKind.i64 1000000)) 3, 4, _, _, some (17, false)⟩) (v := ?vb2620) rfl (by kernel_rfl) (by kernel_rfl) (by kernel_rfl) (fun _ _ _ h => h) (Or.inl ⟨by rfl, ?hb2620⟩) hS27 ?rb2620
            case hb2620 => (intro wz hSw; go_simp <;> with_reducible rfl)
            (try simp only [Act.put, List.setIfInBounds_toArray, List.set_cons_zero, List.set_cons_succ])
            refine wpAnyH_take (i := 21) (oi := ⟨some 66, Op.pick (Operand.tmp 62) (Operand.const (Value.bool true)) (Operand.tmp 65), 4, _, _, none⟩) (v := ?vb2621) rfl (by kernel_rfl) (by kernel_rfl) (by kernel_rfl) (fun _ _ _ h => h) (Or.inl ⟨by rfl, ?hb2621⟩) hS27 ?rb2621
            case hb2621 => (intro wz hSw; go_simp <;> with_reducible rfl)
            (try simp only [Act.put, List.setIfInBounds_toArray, List.set_cons_zero, List.set_cons_succ])
            refine wpAnyH_take (i := 22) (oi := ⟨some 67, Op.move (Operand.tmp 66), 4, _, _, none⟩) (v := ?vb2622) rfl (by kernel_rfl) (by kernel_rfl) (by kernel_rfl) (fun _ _ _ h => h) (Or.inl ⟨by rfl, ?hb2622⟩) hS27 ?rb2622
            case hb2622 => (intro wz hSw; go_simp <;> with_reducible rfl)
            (try simp only [Act.put, List.setIfInBounds_toArray, List.set_cons_zero, List.set_cons_succ])
            refine wpAnyH_take (i := 23) (oi := ⟨some 68, Op.fieldAddr 37 (Operand.tmp 6) 3, 0, _, _, some (22, false)⟩) (v := ?vb2623) rfl (by kernel_rfl) (by kernel_rfl) (by kernel_rfl) (fun _ _ _ h => h) (Or.inl ⟨by rfl, ?hb2623⟩) hS27 ?rb2623
            case hb2623 => (intro wz hSw; go_simp <;> with_reducible rfl)
            (try simp only [Act.put, List.setIfInBounds_toArray, List.set_cons_zero, List.set_cons_succ])
            refine wpAnyH_take (i := 24) (oi := ⟨some 69, Op.load 3 (Operand.tmp 68), 3, _, _, some (22, false)⟩) (v := ?vb2624) rfl (by kernel_rfl) (by kernel_rfl) (by kernel_rfl) (fun _ _ _ h => h) (Or.inl ⟨by rfl, ?hb2624⟩) hS27 ?rb2624
            case hb2624 => (intro wz hSw; obtain ⟨d0, ⟨c0, c1, c2, c3, c4, c5, c6, c7⟩, e0, e1, e2, e3, e4, e5, e6, e7⟩ := HC9.out wz hSw; rw [HAa.out] at d0; go_simp <;> with_reducible rfl)
            (try simp only [Act.put, List.setIfInBounds_toArray, List.set_cons_zero, List.set_cons_succ])
            refine wpAnyH_take (i := 25) (oi := ⟨some 70, Op.binOp BinOp.lss 3 (Operand.tmp 69) (Operand.const (Value.int IntKind.i64 1)) 3, 4, _, _, some (22, false)⟩) (v := ?vb2625) rfl (by kernel_rfl) (by kernel_rfl) (by kernel_rfl) (fun _ _ _ h => h) (Or.inl ⟨by rfl, ?hb2625⟩) hS27 ?rb2625
            case hb2625 => (intro wz hSw; go_simp <;> with_reducible rfl)
            (try simp only [Act.put, List.setIfInBounds_toArray, List.set_cons_zero, List.set_cons_succ])
            refine wpAnyH_take (i := 26) (oi := ⟨some 71, Op.pick (Operand.tmp 67) (Operand.const (Value.bool true)) (Operand.tmp 70), 4, _, _, none⟩) (v := ?vb2626) rfl (by kernel_rfl) (by kernel_rfl) (by kernel_rfl) (fun _ _ _ h => h) (Or.inl ⟨by rfl, ?hb2626⟩) hS27 ?rb2626
            case hb2626 => (intro wz hSw; go_simp <;> with_reducible rfl)
            (try simp only [Act.put, List.setIfInBounds_toArray, List.set_cons_zero, List.set_cons_succ])
            refine wpAnyH_take (i := 27) (oi := ⟨some 72, Op.move (Operand.tmp 71), 4, _, _, none⟩) (v := ?vb2627) rfl (by kernel_rfl) (by kernel_rfl) (by kernel_rfl) (fun _ _ _ h => h) (Or.inl ⟨by rfl, ?hb2627⟩) hS27 ?rb2627
            case hb2627 => (intro wz hSw; go_simp <;> with_reducible rfl)
            (try simp only [Act.put, List.setIfInBounds_toArray, List.set_cons_zero, List.set_cons_succ])
            refine wpAnyH_take (i := 28) (oi := ⟨some 73, Op.fieldAddr 37 (Operand.tmp 6) 7, 0, _, _, some (27, false)⟩) (v := ?vb2628) rfl (by kernel_rfl) (by kernel_rfl) (by kernel_rfl) (fun _ _ _ h => h) (Or.inl ⟨by rfl, ?hb2628⟩) hS27 ?rb2628
            case hb2628 => (intro wz hSw; go_simp <;> with_reducible rfl)
            (try simp only [Act.put, List.setIfInBounds_toArray, List.set_cons_zero, List.set_cons_succ])
            refine wpAnyH_take (i := 29) (oi := ⟨some 74, Op.load 35 (Operand.tmp 73), 35, _, _, some (27, false)⟩) (v := ?vb2629) rfl (by kernel_rfl) (by kernel_rfl) (by kernel_rfl) (fun _ _ _ h => h) (Or.inl ⟨by rfl, ?hb2629⟩) hS27 ?rb2629
            case hb2629 => (intro wz hSw; obtain ⟨d0, ⟨c0, c1, c2, c3, c4, c5, c6, c7⟩, e0, e1, e2, e3, e4, e5, e6, e7⟩ := HC9.out wz hSw; rw [HAa.out] at d0; go_simp <;> with_reducible rfl)
            (try simp only [Act.put, List.setIfInBounds_toArray, List.set_cons_zero, List.set_cons_succ])
            refine wpAnyH_take (i := 30) (oi := ⟨some 75, Op.call { callee := Callee.builtin Builtin.len, args := #[Operand.tmp 74], argTypes := #[35] }, 3, _, _, some (27, false)⟩) (v := ?vb2630) rfl (by kernel_rfl) (by kernel_rfl) (by kernel_rfl) (fun _ _ _ h => h) (Or.inl ⟨by rfl, ?hb2630⟩) hS27 ?rb2630
            case hb2630 => (intro wz hSw; go_simp <;> with_reducible rfl)
            (try simp only [Act.put, List.setIfInBounds_toArray, List.set_cons_zero, List.set_cons_succ])
            refine wpAnyH_take (i := 31) (oi := ⟨some 76, Op.binOp BinOp.lss 3 (Operand.tmp 75) (Operand.const (Value.int IntKind.i64 1)) 3, 4, _, _, some (27, false)⟩) (v := ?vb2631) rfl (by kernel_rfl) (by kernel_rfl) (by kernel_rfl) (fun _ _ _ h => h) (Or.inl ⟨by rfl, ?hb2631⟩) hS27 ?rb2631
            case hb2631 => (intro wz hSw; go_simp <;> with_reducible rfl)
            (try simp only [Act.put, List.setIfInBounds_toArray, List.set_cons_zero, List.set_cons_succ])
            refine wpAnyH_take (i := 32) (oi := ⟨some 77, Op.pick (Operand.tmp 72) (Operand.const (Value.bool true)) (Operand.tmp 76), 4, _, _, none⟩) (v := ?vb2632) rfl (by kernel_rfl) (by kernel_rfl) (by kernel_rfl) (fun _ _ _ h => h) (Or.inl ⟨by rfl, ?hb2632⟩) hS27 ?rb2632
            case hb2632 => (intro wz hSw; go_simp <;> with_reducible rfl)
            (try simp only [Act.put, List.setIfInBounds_toArray, List.set_cons_zero, List.set_cons_succ])
            refine wpAnyH_done (by kernel_rfl) ?_ _
            refine NoPanic.normal ?_
            have HB10 := Lib.hid hS27
            clear hq1 hq2 hq3 hq4
            go_wp2
            generalize u27 = v10 at *
            go_loopg [8] a.eff.length (fun m8 s8 wr => ∃ j : Nat, j ≤ a.eff.length ∧ m8 = a.eff.length - j ∧ s8 = .int .i64 (j : Int) ∧ Hid (Below v9.heap.size v9 wr))
            case atStart => exact ⟨0, by omega, rfl, rfl, HB10⟩
            case round =>
              obtain ⟨j, hj, rfl, rfl, HWq⟩ := hrel
              obtain ⟨d0, _, e0, e1, e2, e3, e4, e5, e6, e7⟩ := HC9.out wr HWq.out
              have E7 := e7
              by_cases hjn : j < a.eff.length
              · have hjl : (j : Int) < a.eff.length := by omega
                have HJ := Lib.hid (show j + 1 ≤ a.eff.length from hjn)
                have HJb : Hid ((j : Int) ≤ 1000) := Lib.hid (by have := HSm.out.effs a HMem.out; omega)
                obtain ⟨t, ht⟩ : ∃ t, a.eff[j]? = some t := ⟨_, List.getElem?_eq_getElem hjn⟩
                obtain ⟨p', off', hA', hpl', _⟩ := rowEf HRE.out ht (Below.refl _ v9) (Nat.le_refl _)
                have HCe : Hid (∀ wz, Below v9.heap.size v9 wz → wz.cell? ⟨p', off' + j * 3, none⟩ = some (.int .i64 t.kind) ∧ wz.cell? ⟨p', off' + j * 3 + 1, none⟩ = some (.int .i64 t.amount) ∧ wz.cell? ⟨p', off' + j * 3 + 2, none⟩ = some (.int .i64 t.aura)) := Lib.hid (fun wz hz => by
                  obtain ⟨p2, off2, hA2, _, q⟩ := rowEf HRE.out ht hz (Nat.le_refl _)
                  rw [hA'] at hA2; injection hA2 with e; injection e with e1 e2; subst e1; subst e2
                  exact q)
                have HOk := Lib.hid ((HN.out.abs a HMem.out).2.2.2.2.2.2 t (List.mem_of_getElem? ht))
                obtain ⟨q, x, hf⟩ := fd_ex Au.id zAu c.au t.aura
                have HF := Lib.hid hf
                have HAe := Lib.hid hA'
                clear ht hpl' hA' hf
                rw [HAe.out] at e7
                go_wp2
                have hS0 : Below v9.heap.size v9 wr.drew := HWq.out.drew
                refine wp_region_noPanic ?_
                refine wp_region_held_drew (S := fun w' => Below v9.heap.size v9 w') (by kernel_rfl) hS0 (fun _ => ?_)
                generalize wr.drew = v0 at hS0 ⊢
                refine wpAnyH_take (i := 0) (oi := ⟨some 86, Op.load 31 (Operand.tmp 1), 31, _, _, none⟩) (v := ?vc280) rfl (by kernel_rfl) (by kernel_rfl) (by kernel_rfl) (fun _ _ _ h => h) (Or.inl ⟨by rfl, ?hc280⟩) hS0 ?rc280
                case hc280 => (intro wz hSw; obtain ⟨d0, d1, d2, d3, d4, d5, d6, d7, d8, d9, _⟩ := HC.out wz (bstep hSw HB9.out); obtain ⟨_, _, e0, e1, e2, e3, e4, e5, e6, e7⟩ := HC9.out wz hSw; rw [HAe.out] at e7; obtain ⟨x0, x1, x2⟩ := HCe.out wz hSw; go_simp <;> with_reducible rfl)
                (try simp only [Act.put, List.setIfInBounds_toArray, List.set_cons_zero, List.set_cons_succ])
                refine wpAnyH_take (i := 1) (oi := ⟨some 87, Op.fieldAddr 37 (Operand.tmp 6) 7, 0, _, _, none⟩) (v := ?vc281) rfl (by kernel_rfl) (by kernel_rfl) (by kernel_rfl) (fun _ _ _ h => h) (Or.inl ⟨by rfl, ?hc281⟩) hS0 ?rc281
                case hc281 => (intro wz hSw; go_simp <;> with_reducible rfl)
                (try simp only [Act.put, List.setIfInBounds_toArray, List.set_cons_zero, List.set_cons_succ])
                refine wpAnyH_take (i := 2) (oi := ⟨some 88, Op.load 35 (Operand.tmp 87), 35, _, _, none⟩) (v := ?vc282) rfl (by kernel_rfl) (by kernel_rfl) (by kernel_rfl) (fun _ _ _ h => h) (Or.inl ⟨by rfl, ?hc282⟩) hS0 ?rc282
                case hc282 => (intro wz hSw; obtain ⟨d0, d1, d2, d3, d4, d5, d6, d7, d8, d9, _⟩ := HC.out wz (bstep hSw HB9.out); obtain ⟨_, _, e0, e1, e2, e3, e4, e5, e6, e7⟩ := HC9.out wz hSw; rw [HAe.out] at e7; obtain ⟨x0, x1, x2⟩ := HCe.out wz hSw; go_simp <;> with_reducible rfl)
                (try simp only [Act.put, List.setIfInBounds_toArray, List.set_cons_zero, List.set_cons_succ])
                refine wpAnyH_take (i := 3) (oi := ⟨some 89, Op.move (Operand.tmp 8), 3, _, _, none⟩) (v := ?vc283) rfl (by kernel_rfl) (by kernel_rfl) (by kernel_rfl) (fun _ _ _ h => h) (Or.inl ⟨by rfl, ?hc283⟩) hS0 ?rc283
                case hc283 => (intro wz hSw; go_simp <;> with_reducible rfl)
                (try simp only [Act.put, List.setIfInBounds_toArray, List.set_cons_zero, List.set_cons_succ])
                refine wpAnyH_take (i := 4) (oi := ⟨some 90, Op.indexAddr 35 (Operand.tmp 88) (Operand.tmp 89), 0, _, _, none⟩) (v := ?vc284) rfl (by kernel_rfl) (by kernel_rfl) (by kernel_rfl) (fun _ _ _ h => h) (Or.inl ⟨by rfl, ?hc284⟩) hS0 ?rc284
                case hc284 => (intro wz hSw; go_simp <;> with_reducible rfl)
                (try simp only [Act.put, List.setIfInBounds_toArray, List.set_cons_zero, List.set_cons_succ])
                refine wpAnyH_take (i := 5) (oi := ⟨some 91, Op.fieldAddr 56 (Operand.tmp 90) 2, 0, _, _, none⟩) (v := ?vc285) rfl (by kernel_rfl) (by kernel_rfl) (by kernel_rfl) (fun _ _ _ h => h) (Or.inl ⟨by rfl, ?hc285⟩) hS0 ?rc285
                case hc285 => (intro wz hSw; go_simp <;> with_reducible rfl)
                (try simp only [Act.put, List.setIfInBounds_toArray, List.set_cons_zero, List.set_cons_succ])
                refine wpAnyH_take (i := 6) (oi := ⟨some 92, Op.load 3 (Operand.tmp 91), 3, _, _, none⟩) (v := ?vc286) rfl (by kernel_rfl) (by kernel_rfl) (by kernel_rfl) (fun _ _ _ h => h) (Or.inl ⟨by rfl, ?hc286⟩) hS0 ?rc286
                case hc286 => (intro wz hSw; obtain ⟨d0, d1, d2, d3, d4, d5, d6, d7, d8, d9, _⟩ := HC.out wz (bstep hSw HB9.out); obtain ⟨_, _, e0, e1, e2, e3, e4, e5, e6, e7⟩ := HC9.out wz hSw; rw [HAe.out] at e7; obtain ⟨x0, x1, x2⟩ := HCe.out wz hSw; go_simp <;> with_reducible rfl)
                (try simp only [Act.put, List.setIfInBounds_toArray, List.set_cons_zero, List.set_cons_succ])
                refine wpAnyH_ready (rs := [7, 11]) (by kernel_rfl) (by simp) ?_
                refine AllReadyH.cons (o := ⟨some 93, Op.call { callee := Callee.value (Operand.func 10), args := #[Operand.tmp 86, Operand.tmp 92], argTypes := #[31, 3] }, 42, _, _, none⟩) rfl (fun K hK => ?_) (AllReadyH.cons (o := ⟨some 9, Op.alloc 41, 0, _, _, none⟩) rfl (fun K hK => ?_) AllReadyH.nil)
                · go_simp
                  (with_reducible refine (aura_any (HR.out.below (bstep hS0 HB9.out) HBV.out) (Nat.le_trans HBV.out (bstep hS0 HB9.out).size) HSm.out t.aura q x HF.out).mono ?_); rintro e v29 ⟨rfl, hB29⟩; have hS29 := bstep hB29 hS0
                  refine hK.out _ _ hS29 (fun _ => ?_)
                  clear hK K
                  (try simp only [Act.put, List.setIfInBounds_toArray, List.set_cons_zero, List.set_cons_succ])
                  refine wpAnyH_take (i := 8) (oi := ⟨some 85, Op.move (Operand.tmp 93), 42, _, _, none⟩) (v := ?vc28b78) rfl (by kernel_rfl) (by kernel_rfl) (by kernel_rfl) (fun _ _ _ h => h) (Or.inl ⟨by rfl, ?hc28b78⟩) hS29 ?rc28b78
                  case hc28b78 => (intro wz hSw; go_simp <;> with_reducible rfl)
                  (try simp only [Act.put, List.setIfInBounds_toArray, List.set_cons_zero, List.set_cons_succ])
                  refine wpAnyH_take (i := 9) (oi := ⟨some 94, Op.extract (Operand.tmp 85) 0, 41, _, _, none⟩) (v := ?vc28b79) rfl (by kernel_rfl) (by kernel_rfl) (by kernel_rfl) (fun _ _ _ h => h) (Or.inl ⟨by rfl, ?hc28b79⟩) hS29 ?rc28b79
                  case hc28b79 => (intro wz hSw; go_simp <;> with_reducible rfl)
                  (try simp only [Act.put, List.setIfInBounds_toArray, List.set_cons_zero, List.set_cons_succ])
                  refine wpAnyH_take (i := 10) (oi := ⟨some 95, Op.extract (Operand.tmp 85) 1, 4, _, _, none⟩) (v := ?vc28b710) rfl (by kernel_rfl) (by kernel_rfl) (by kernel_rfl) (fun _ _ _ h => h) (Or.inl ⟨by rfl, ?hc28b710⟩) hS29 ?rc28b710
                  case hc28b710 => (intro wz hSw; go_simp <;> with_reducible rfl)
                  (try simp only [Act.put, List.setIfInBounds_toArray, List.set_cons_zero, List.set_cons_succ])
                  refine wpAnyH_ready (rs := [11]) (by kernel_rfl) (by simp) ?_
                  refine AllReadyH.cons (o := ⟨some 9, Op.alloc 41, 0, _, _, none⟩) rfl (fun K hK => ?_) AllReadyH.nil
                  go_simp
                  have hZ30 := heap_alloc_new v29 zcAu; have hge := hS29.size; have hS30 := hS29.alloc hS29.size zcAu; have hsz : v29.heap.size < (v29.alloc zcAu).heap.size := (by simp); clear hsz; generalize hP : v29.heap.size = P14 at hZ30 hge ⊢; generalize hV : v29.alloc zcAu = v30 at hZ30 hS30 ⊢; clear hP hV
                  refine hK.out _ _ hS30 (fun _ => ?_)
                  clear hK K
                  (try simp only [Act.put, List.setIfInBounds_toArray, List.set_cons_zero, List.set_cons_succ])
                  refine wpAnyH_ready (rs := [12]) (by kernel_rfl) (by simp) ?_
                  refine AllReadyH.cons (o := ⟨none, Op.store 41 (Operand.tmp 9) (Operand.tmp 94), 0, _, _, none⟩) rfl (fun K hK => ?_) AllReadyH.nil
                  have z := cell_of hZ30; have y := froz_of hZ30
                  go_simp
                  rw [seven0]; have hS31 := below_setCells P14 hge [.int .i64 q.id, .int .i64 q.kind, .int .i64 q.ticks, .int .i64 q.every, .int .i64 q.stacks, .int .i64 q.amount, .bool q.harm] 0 v30 hS30; clear z y; generalize hN : World.setCells v30 P14 0 _ = v31 at hS31 ⊢; clear hN
                  refine hK.out _ _ hS31 (fun _ => ?_)
                  clear hK K
                  (try simp only [Act.put, List.setIfInBounds_toArray, List.set_cons_zero, List.set_cons_succ])
                  refine wpAnyH_take (i := 13) (oi := ⟨some 10, Op.assign (Operand.tmp 95), 4, _, _, none⟩) (v := ?vc28b713) rfl (by kernel_rfl) (by kernel_rfl) (by kernel_rfl) (fun _ _ _ h => h) (Or.inl ⟨by rfl, ?hc28b713⟩) hS31 ?rc28b713
                  case hc28b713 => (intro wz hSw; go_simp <;> with_reducible rfl)
                  (try simp only [Act.put, List.setIfInBounds_toArray, List.set_cons_zero, List.set_cons_succ])
                  refine wpAnyH_done (by kernel_rfl) ?_ _
                  refine NoPanic.normal ?_
                  have HB14 := Lib.hid hS31
                  obtain ⟨_, _, e0, e1, e2, e3, e4, e5, e6, e7⟩ := HC9.out _ HB14.out
                  rw [HAe.out] at e7
                  obtain ⟨x0, x1, x2⟩ := HCe.out _ HB14.out
                  clear hge
                  by_cases hk4 : t.kind = 4
                  · have hk5 : (t.kind == 4) = true := by simpa using hk4
                    have hxt : x = true := by
                      rcases HOk.out with ⟨_, _, h⟩ | ⟨h, _⟩
                      · exact (fd_has HF.out).2 h
                      · exact absurd hk4 h
                    subst hxt
                    clear hk4
                    go_wp2
                    go_roundg (a.eff.length - (j + 1))
                    case measure => have := HJ.out; omega
                    case rel => have hb9 := HJb.out; exact ⟨j + 1, HJ.out, rfl, (by first | exact nx hb9 | go_num), HB14⟩
                  · have hk5 : (t.kind == 4) = false := by simpa using hk4
                    clear hk4
                    go_wp2
                    go_roundg (a.eff.length - (j + 1))
                    case measure => have := HJ.out; omega
                    case rel => have hb9 := HJb.out; exact ⟨j + 1, HJ.out, rfl, (by first | exact nx hb9 | go_num), HB14⟩
                · go_simp
                  have hZ32 := heap_alloc_new v0 zcAu; have hge := hS0.size; have hS32 := hS0.alloc hS0.size zcAu; have hsz : v0.heap.size < (v0.alloc zcAu).heap.size := (by simp); clear hsz; generalize hP : v0.heap.size = P14 at hZ32 hge ⊢; generalize hV : v0.alloc zcAu = v32 at hZ32 hS32 ⊢; clear hP hV
                  refine hK.out _ _ hS32 (fun _ => ?_)
                  clear hK K
                  (try simp only [Act.put, List.setIfInBounds_toArray, List.set_cons_zero, List.set_cons_succ])
                  refine wpAnyH_ready (rs := [7]) (by kernel_rfl) (by simp) ?_
                  refine AllReadyH.cons (o := ⟨some 93, Op.call { callee := Callee.value (Operand.func 10), args := #[Operand.tmp 86, Operand.tmp 92], argTypes := #[31, 3] }, 42, _, _, none⟩) rfl (fun K hK => ?_) AllReadyH.nil
                  go_simp
                  (with_reducible refine (aura_any (HR.out.below (bstep hS32 HB9.out) HBV.out) (Nat.le_trans HBV.out (bstep hS32 HB9.out).size) HSm.out t.aura q x HF.out).mono ?_); rintro e v33 ⟨rfl, hB33⟩; have hS33 := bstep hB33 hS32; have hZ33 := (hB33.block _ (lt_of_heap hZ32)).trans hZ32
                  refine hK.out _ _ hS33 (fun _ => ?_)
                  clear hK K
                  (try simp only [Act.put, List.setIfInBounds_toArray, List.set_cons_zero, List.set_cons_succ])
                  refine wpAnyH_take (i := 8) (oi := ⟨some 85, Op.move (Operand.tmp 93), 42, _, _, none⟩) (v := ?vc28b118) rfl (by kernel_rfl) (by kernel_rfl) (by kernel_rfl) (fun _ _ _ h => h) (Or.inl ⟨by rfl, ?hc28b118⟩) hS33 ?rc28b118
                  case hc28b118 => (intro wz hSw; go_simp <;> with_reducible rfl)
                  (try simp only [Act.put, List.setIfInBounds_toArray, List.set_cons_zero, List.set_cons_succ])
                  refine wpAnyH_take (i := 9) (oi := ⟨some 94, Op.extract (Operand.tmp 85) 0, 41, _, _, none⟩) (v := ?vc28b119) rfl (by kernel_rfl) (by kernel_rfl) (by kernel_rfl) (fun _ _ _ h => h) (Or.inl ⟨by rfl, ?hc28b119⟩) hS33 ?rc28b119
                  case hc28b119 => (intro wz hSw; go_simp <;> with_reducible rfl)
                  (try simp only [Act.put, List.setIfInBounds_toArray, List.set_cons_zero, List.set_cons_succ])
                  refine wpAnyH_take (i := 10) (oi := ⟨some 95, Op.extract (Operand.tmp 85) 1, 4, _, _, none⟩) (v := ?vc28b1110) rfl (by kernel_rfl) (by kernel_rfl) (by kernel_rfl) (fun _ _ _ h => h) (Or.inl ⟨by rfl, ?hc28b1110⟩) hS33 ?rc28b1110
                  case hc28b1110 => (intro wz hSw; go_simp <;> with_reducible rfl)
                  (try simp only [Act.put, List.setIfInBounds_toArray, List.set_cons_zero, List.set_cons_succ])
                  refine wpAnyH_ready (rs := [12]) (by kernel_rfl) (by simp) ?_
                  refine AllReadyH.cons (o := ⟨none, Op.store 41 (Operand.tmp 9) (Operand.tmp 94), 0, _, _, none⟩) rfl (fun K hK => ?_) AllReadyH.nil
                  have z := cell_of hZ33; have y := froz_of hZ33
                  go_simp
                  rw [seven0]; have hS34 := below_setCells P14 hge [.int .i64 q.id, .int .i64 q.kind, .int .i64 q.ticks, .int .i64 q.every, .int .i64 q.stacks, .int .i64 q.amount, .bool q.harm] 0 v33 hS33; clear z y; generalize hN : World.setCells v33 P14 0 _ = v34 at hS34 ⊢; clear hN
                  refine hK.out _ _ hS34 (fun _ => ?_)
                  clear hK K
                  (try simp only [Act.put, List.setIfInBounds_toArray, List.set_cons_zero, List.set_cons_succ])
                  refine wpAnyH_take (i := 13) (oi := ⟨some 10, Op.assign (Operand.tmp 95), 4, _, _, none⟩) (v := ?vc28b1113) rfl (by kernel_rfl) (by kernel_rfl) (by kernel_rfl) (fun _ _ _ h => h) (Or.inl ⟨by rfl, ?hc28b1113⟩) hS34 ?rc28b1113
                  case hc28b1113 => (intro wz hSw; go_simp <;> with_reducible rfl)
                  (try simp only [Act.put, List.setIfInBounds_toArray, List.set_cons_zero, List.set_cons_succ])
                  refine wpAnyH_done (by kernel_rfl) ?_ _
                  refine NoPanic.normal ?_
                  have HB14 := Lib.hid hS34
                  obtain ⟨_, _, e0, e1, e2, e3, e4, e5, e6, e7⟩ := HC9.out _ HB14.out
                  rw [HAe.out] at e7
                  obtain ⟨x0, x1, x2⟩ := HCe.out _ HB14.out
                  clear hge
                  by_cases hk4 : t.kind = 4
                  · have hk5 : (t.kind == 4) = true := by simpa using hk4
                    have hxt : x = true := by
                      rcases HOk.out with ⟨_, _, h⟩ | ⟨h, _⟩
                      · exact (fd_has HF.out).2 h
                      · exact absurd hk4 h
                    subst hxt
                    clear hk4
                    go_wp2
                    go_roundg (a.eff.length - (j + 1))
                    case measure => have := HJ.out; omega
                    case rel => have hb9 := HJb.out; exact ⟨j + 1, HJ.out, rfl, (by first | exact nx hb9 | go_num), HB14⟩
                  · have hk5 : (t.kind == 4) = false := by simpa using hk4
                    clear hk4
                    go_wp2
                    go_roundg (a.eff.length - (j + 1))
                    case measure => have := HJ.out; omega
                    case rel => have hb9 := HJb.out; exact ⟨j + 1, HJ.out, rfl, (by first | exact nx hb9 | go_num), HB14⟩
              · have hjl : decide ((j : Int) < a.eff.length) = false := by simp; omega
                have HWr := Lib.hid (bstep HWq.out HB9.out)
                go_wp2
                go_roundg (c.ab.length - (k + 1))
                case measure => have := HK.out; omega
                case rel => have hb9 := HKb.out; exact ⟨k + 1, HK.out, rfl, (by first | exact nx hb9 | go_num), HWr⟩
        · have hkl : decide ((k : Int) < c.ab.length) = false := by simp; omega
          have HB3 := HW
          go_wp2
          go_loopg [11] c.fo.length (fun m s11 wr => ∃ k : Nat, k ≤ c.fo.length ∧ m = c.fo.length - k ∧ s11 = .int .i64 (k : Int) ∧ Hid (Below V.heap.size V wr))
          case atStart => exact ⟨0, by omega, rfl, rfl, HB3⟩
          case round =>
            obtain ⟨k, hk, rfl, rfl, HW⟩ := hrel
            obtain ⟨d0, d1, d2, d3, d4, d5, d6, d7, d8, d9⟩ := HBox.out wr HW.out
            by_cases hkn : k < c.fo.length
            · have hkl : (k : Int) < c.fo.length := by omega
              obtain ⟨a, ha⟩ : ∃ a, c.fo[k]? = some a := ⟨_, List.getElem?_eq_getElem hkn⟩
              obtain ⟨p, off, hA, hpl, _⟩ := rowFo HR.out.fos ha (Below.refl _ V) HBV.out
              have HK := Lib.hid (show k + 1 ≤ c.fo.length from hkn)
              have HKb : Hid ((k : Int) ≤ 1000) := Lib.hid (by have := HSm.out.fos; omega)
              have HMem := Lib.hid (List.mem_of_getElem? ha)
              have HFD := Lib.hid (fd_self zFo HN.out.fop ha)
              have HAa := Lib.hid hA
              have HC : Hid (∀ wz, Below V.heap.size V wz → wz.cell? ⟨W.heap.size, 0, none⟩ = some (.slice c.aA c.ab.length c.aC) ∧ wz.cell? ⟨W.heap.size, 1, none⟩ = some (.slice c.uA c.au.length c.uC) ∧ wz.cell? ⟨W.heap.size, 2, none⟩ = some (.slice c.fA c.fo.length c.fC) ∧ wz.cell? ⟨W.heap.size, 3, none⟩ = some (.int .i64 c.W) ∧ wz.cell? ⟨W.heap.size, 4, none⟩ = some (.int .i64 c.H) ∧ wz.cell? ⟨W.heap.size, 5, none⟩ = some (.slice c.gA c.wl.length c.gC) ∧ wz.cell? ⟨W.heap.size, 6, none⟩ = some (.int .i64 c.dx) ∧ wz.cell? ⟨W.heap.size, 7, none⟩ = some (.int .i64 c.dy) ∧ wz.cell? ⟨W.heap.size, 8, none⟩ = some (.int .i64 c.lx) ∧ wz.cell? ⟨W.heap.size, 9, none⟩ = some (.int .i64 c.ly) ∧ wz.cell? ⟨p, off + k * 8, none⟩ = some (.int .i64 a.id) ∧ wz.cell? ⟨p, off + k * 8 + 1, none⟩ = some (.int .i64 a.health) ∧ wz.cell? ⟨p, off + k * 8 + 2, none⟩ = some (.int .i64 a.hit) ∧ wz.cell? ⟨p, off + k * 8 + 3, none⟩ = some (.int .i64 a.every) ∧ wz.cell? ⟨p, off + k * 8 + 4, none⟩ = some (.int .i64 a.reach) ∧ wz.cell? ⟨p, off + k * 8 + 5, none⟩ = some (.slice a.sa a.script.length a.sc) ∧ wz.cell? ⟨p, off + k * 8 + 6, none⟩ = some (.slice a.ha a.hoard.length a.hc) ∧ wz.cell? ⟨p, off + k * 8 + 7, none⟩ = some (.int .i64 a.drops)) := Lib.hid (fun wz hz => by
                obtain ⟨p2, off2, hA2, _, q⟩ := rowFo HR.out.fos ha hz HBV.out
                rw [hA] at hA2; injection hA2 with e; injection e with e1 e2; subst e1; subst e2
                obtain ⟨d0, d1, d2, d3, d4, d5, d6, d7, d8, d9⟩ := HBox.out wz hz
                exact ⟨d0, d1, d2, d3, d4, d5, d6, d7, d8, d9, q⟩)
              have HLe := Lib.hid (show (a.script.length : Int) ≤ 100000 by have := HSm.out.scrs a HMem.out; omega)
              have HLh := Lib.hid (show (a.hoard.length : Int) ≤ 100000 by have := HSm.out.hors a HMem.out; omega)
              have HQ : Hid (decide (a.health < 1) = false ∧ decide (a.every < 1) = false) := Lib.hid (by
                obtain ⟨⟨h1, _, _, h2, _⟩, _⟩ := HN.out.fos a HMem.out
                unfold In at h1 h2
                refine ⟨?_, ?_⟩ <;> (simp only [decide_eq_false_iff_not]; omega))
              clear ha hA hpl
              rw [HAa.out] at d2
              go_wp2
              have hS0 : Below V.heap.size V wr.drew := HW.out.drew
              refine wp_region_noPanic ?_
              refine wp_region_held_drew (S := fun w' => Below V.heap.size V w') (by kernel_rfl) hS0 (fun _ => ?_)
              generalize wr.drew = v0 at hS0 ⊢
              refine wpAnyH_take (i := 0) (oi := ⟨some 115, Op.load 31 (Operand.tmp 1), 31, _, _, none⟩) (v := ?vd0) rfl (by kernel_rfl) (by kernel_rfl) (by kernel_rfl) (fun _ _ _ h => h) (Or.inl ⟨by rfl, ?hd0⟩) hS0 ?rd0
              case hd0 => (intro wz hSw; obtain ⟨d0, d1, d2, d3, d4, d5, d6, d7, d8, d9, c0, c1, c2, c3, c4, c5, c6, c7⟩ := HC.out wz hSw; go_simp <;> with_reducible rfl)
              (try simp only [Act.put, List.setIfInBounds_toArray, List.set_cons_zero, List.set_cons_succ])
              refine wpAnyH_take (i := 1) (oi := ⟨some 116, Op.fieldAddr 31 (Operand.tmp 1) 2, 0, _, _, none⟩) (v := ?vd1) rfl (by kernel_rfl) (by kernel_rfl) (by kernel_rfl) (fun _ _ _ h => h) (Or.inl ⟨by rfl, ?hd1⟩) hS0 ?rd1
              case hd1 => (intro wz hSw; go_simp <;> with_reducible rfl)
              (try simp only [Act.put, List.setIfInBounds_toArray, List.set_cons_zero, List.set_cons_succ])
              refine wpAnyH_take (i := 2) (oi := ⟨some 117, Op.load 24 (Operand.tmp 116), 24, _, _, none⟩) (v := ?vd2) rfl (by kernel_rfl) (by kernel_rfl) (by kernel_rfl) (fun _ _ _ h => h) (Or.inl ⟨by rfl, ?hd2⟩) hS0 ?rd2
              case hd2 => (intro wz hSw; obtain ⟨d0, d1, d2, d3, d4, d5, d6, d7, d8, d9, c0, c1, c2, c3, c4, c5, c6, c7⟩ := HC.out wz hSw; rw [HAa.out] at d2; go_simp <;> with_reducible rfl)
              (try simp only [Act.put, List.setIfInBounds_toArray, List.set_cons_zero, List.set_cons_succ])
              refine wpAnyH_take (i := 3) (oi := ⟨some 118, Op.move (Operand.tmp 11), 3, _, _, none⟩) (v := ?vd3) rfl (by kernel_rfl) (by kernel_rfl) (by kernel_rfl) (fun _ _ _ h => h) (Or.inl ⟨by rfl, ?hd3⟩) hS0 ?rd3
              case hd3 => (intro wz hSw; go_simp <;> with_reducible rfl)
              (try simp only [Act.put, List.setIfInBounds_toArray, List.set_cons_zero, List.set_cons_succ])
              refine wpAnyH_take (i := 4) (oi := ⟨some 119, Op.indexAddr 24 (Operand.tmp 117) (Operand.tmp 118), 0, _, _, none⟩) (v := ?vd4) rfl (by kernel_rfl) (by kernel_rfl) (by kernel_rfl) (fun _ _ _ h => h) (Or.inl ⟨by rfl, ?hd4⟩) hS0 ?rd4
              case hd4 => (intro wz hSw; go_simp <;> with_reducible rfl)
              (try simp only [Act.put, List.setIfInBounds_toArray, List.set_cons_zero, List.set_cons_succ])
              refine wpAnyH_take (i := 5) (oi := ⟨some 120, Op.fieldAddr 47 (Operand.tmp 119) 0, 0, _, _, none⟩) (v := ?vd5) rfl (by kernel_rfl) (by kernel_rfl) (by kernel_rfl) (fun _ _ _ h => h) (Or.inl ⟨by rfl, ?hd5⟩) hS0 ?rd5
              case hd5 => (intro wz hSw; go_simp <;> with_reducible rfl)
              (try simp only [Act.put, List.setIfInBounds_toArray, List.set_cons_zero, List.set_cons_succ])
              refine wpAnyH_take (i := 6) (oi := ⟨some 121, Op.load 3 (Operand.tmp 120), 3, _, _, none⟩) (v := ?vd6) rfl (by kernel_rfl) (by kernel_rfl) (by kernel_rfl) (fun _ _ _ h => h) (Or.inl ⟨by rfl, ?hd6⟩) hS0 ?rd6
              case hd6 => (intro wz hSw; obtain ⟨d0, d1, d2, d3, d4, d5, d6, d7, d8, d9, c0, c1, c2, c3, c4, c5, c6, c7⟩ := HC.out wz hSw; go_simp <;> with_reducible rfl)
              (try simp only [Act.put, List.setIfInBounds_toArray, List.set_cons_zero, List.set_cons_succ])
              refine wpAnyH_ready (rs := [7, 11]) (by kernel_rfl) (by simp) ?_
              refine AllReadyH.cons (o := ⟨some 122, Op.call { callee := Callee.value (Operand.func 12), args := #[Operand.tmp 115, Operand.tmp 121], argTypes := #[31, 3] }, 48, _, _, none⟩) rfl (fun K hK => ?_) (AllReadyH.cons (o := ⟨some 12, Op.alloc 47, 0, _, _, none⟩) rfl (fun K hK => ?_) AllReadyH.nil)
              · go_simp
                (with_reducible refine (foe_any (HR.out.below hS0 HBV.out) (Nat.le_trans HBV.out hS0.size) HSm.out a.id a true HFD.out).mono ?_); rintro e v1 ⟨A', c', A2, c2, rfl, HO, HO2, hB1⟩; have hS1 := bstep hB1 hS0; have hE1_0 := HO.out.pw.rw'; have hE1_1 := HO2.out.pw.rw'
                refine hK.out _ _ hS1 (fun _ => ?_)
                clear hK K
                (try simp only [Act.put, List.setIfInBounds_toArray, List.set_cons_zero, List.set_cons_succ])
                refine wpAnyH_take (i := 8) (oi := ⟨some 114, Op.move (Operand.tmp 122), 48, _, _, none⟩) (v := ?vdb78) rfl (by kernel_rfl) (by kernel_rfl) (by kernel_rfl) (fun _ _ _ h => h) (Or.inl ⟨by rfl, ?hdb78⟩) hS1 ?rdb78
                case hdb78 => (intro wz hSw; go_simp <;> with_reducible rfl)
                (try simp only [Act.put, List.setIfInBounds_toArray, List.set_cons_zero, List.set_cons_succ])
                refine wpAnyH_take (i := 9) (oi := ⟨some 123, Op.extract (Operand.tmp 114) 0, 47, _, _, none⟩) (v := ?vdb79) rfl (by kernel_rfl) (by kernel_rfl) (by kernel_rfl) (fun _ _ _ h => h) (Or.inl ⟨by rfl, ?hdb79⟩) hS1 ?rdb79
                case hdb79 => (intro wz hSw; go_simp <;> with_reducible rfl)
                (try simp only [Act.put, List.setIfInBounds_toArray, List.set_cons_zero, List.set_cons_succ])
                refine wpAnyH_take (i := 10) (oi := ⟨some 124, Op.extract (Operand.tmp 114) 1, 4, _, _, none⟩) (v := ?vdb710) rfl (by kernel_rfl) (by kernel_rfl) (by kernel_rfl) (fun _ _ _ h => h) (Or.inl ⟨by rfl, ?hdb710⟩) hS1 ?rdb710
                case hdb710 => (intro wz hSw; go_simp <;> with_reducible rfl)
                (try simp only [Act.put, List.setIfInBounds_toArray, List.set_cons_zero, List.set_cons_succ])
                refine wpAnyH_ready (rs := [11]) (by kernel_rfl) (by simp) ?_
                refine AllReadyH.cons (o := ⟨some 12, Op.alloc 47, 0, _, _, none⟩) rfl (fun K hK => ?_) AllReadyH.nil
                go_simp
                have hZ2 := heap_alloc_new v1 zcFo; have hge := hS1.size; have hS2 := hS1.alloc hS1.size zcFo; have hsz : v1.heap.size < (v1.alloc zcFo).heap.size := (by simp); have hE2_0 := fun o vs => rw_new (hE1_0.below ((Below.refl _ v1).alloc (Nat.le_refl _) zcFo) (Nat.le_refl _)) (Nat.le_refl _) hsz o vs; have hE2_1 := fun o vs => rw_new (hE1_1.below ((Below.refl _ v1).alloc (Nat.le_refl _) zcFo) (Nat.le_refl _)) (Nat.le_refl _) hsz o vs; clear hE1_0 hE1_1; clear hsz; generalize hP : v1.heap.size = P at hZ2 hge hE2_0 hE2_1 ⊢; generalize hV : v1.alloc zcFo = v2 at hZ2 hS2 hE2_0 hE2_1 ⊢; clear hP hV
                refine hK.out _ _ hS2 (fun _ => ?_)
                clear hK K
                (try simp only [Act.put, List.setIfInBounds_toArray, List.set_cons_zero, List.set_cons_succ])
                refine wpAnyH_ready (rs := [12]) (by kernel_rfl) (by simp) ?_
                refine AllReadyH.cons (o := ⟨none, Op.store 47 (Operand.tmp 12) (Operand.tmp 123), 0, _, _, none⟩) rfl (fun K hK => ?_) AllReadyH.nil
                have z := cell_of hZ2; have y := froz_of hZ2
                go_simp
                rw [eight0]; have hPZ := put8 hZ2 (.int .i64 a.id) (.int .i64 a.health) (.int .i64 a.hit) (.int .i64 a.every) (.int .i64 a.reach) (.slice A' a.script.length c') (.slice A2 a.hoard.length c2) (.int .i64 a.drops); have hS3 := below_setCells P hge [.int .i64 a.id, .int .i64 a.health, .int .i64 a.hit, .int .i64 a.every, .int .i64 a.reach, .slice A' a.script.length c', .slice A2 a.hoard.length c2, .int .i64 a.drops] 0 v2 hS2; have hRE0 := hE2_0 0 [.int .i64 a.id, .int .i64 a.health, .int .i64 a.hit, .int .i64 a.every, .int .i64 a.reach, .slice A' a.script.length c', .slice A2 a.hoard.length c2, .int .i64 a.drops]; have hRE1 := hE2_1 0 [.int .i64 a.id, .int .i64 a.health, .int .i64 a.hit, .int .i64 a.every, .int .i64 a.reach, .slice A' a.script.length c', .slice A2 a.hoard.length c2, .int .i64 a.drops]; clear z y; generalize hN : World.setCells v2 P 0 _ = v3 at hPZ hS3 hRE0 hRE1 ⊢; clear hN
                refine hK.out _ _ hS3 (fun _ => ?_)
                clear hK K
                (try simp only [Act.put, List.setIfInBounds_toArray, List.set_cons_zero, List.set_cons_succ])
                refine wpAnyH_take (i := 13) (oi := ⟨some 13, Op.assign (Operand.tmp 124), 4, _, _, none⟩) (v := ?vdb713) rfl (by kernel_rfl) (by kernel_rfl) (by kernel_rfl) (fun _ _ _ h => h) (Or.inl ⟨by rfl, ?hdb713⟩) hS3 ?rdb713
                case hdb713 => (intro wz hSw; go_simp <;> with_reducible rfl)
                (try simp only [Act.put, List.setIfInBounds_toArray, List.set_cons_zero, List.set_cons_succ])
                refine wpAnyH_done (by kernel_rfl) ?_ _
                refine NoPanic.normal ?_
                have HB9 := Lib.hid hS3; have HPZ : Hid (v3.heap[P]? = some (oFo (a.re A' c' A2 c2))) := Lib.hid hPZ; have HRE := Lib.hid hRE0; have HRH := Lib.hid hRE1
                clear hPZ hRE0 hRE1 hge
                have HRa : Hid (RW ln v3 v3.heap.size a.sa a.script) := Lib.hid (((HR.out.scrs a HMem.out).below HB9.out HBV.out).more (Nat.le_trans HBV.out HB9.out.size))
                have HRb : Hid (RW pz v3 v3.heap.size a.ha a.hoard) := Lib.hid (((HR.out.hors a HMem.out).below HB9.out HBV.out).more (Nat.le_trans HBV.out HB9.out.size))
                have HC9 : Hid (∀ wz, Below v3.heap.size v3 wz → wz.cell? ⟨W.heap.size, 2, none⟩ = some (.slice c.fA c.fo.length c.fC) ∧ (wz.cell? ⟨p, off + k * 8, none⟩ = some (.int .i64 a.id) ∧ wz.cell? ⟨p, off + k * 8 + 1, none⟩ = some (.int .i64 a.health) ∧ wz.cell? ⟨p, off + k * 8 + 2, none⟩ = some (.int .i64 a.hit) ∧ wz.cell? ⟨p, off + k * 8 + 3, none⟩ = some (.int .i64 a.every) ∧ wz.cell? ⟨p, off + k * 8 + 4, none⟩ = some (.int .i64 a.reach) ∧ wz.cell? ⟨p, off + k * 8 + 5, none⟩ = some (.slice a.sa a.script.length a.sc) ∧ wz.cell? ⟨p, off + k * 8 + 6, none⟩ = some (.slice a.ha a.hoard.length a.hc) ∧ wz.cell? ⟨p, off + k * 8 + 7, none⟩ = some (.int .i64 a.drops)) ∧ wz.cell? ⟨P, 0, none⟩ = some (.int .i64 a.id) ∧ wz.cell? ⟨P, 1, none⟩ = some (.int .i64 a.health) ∧ wz.cell? ⟨P, 2, none⟩ = some (.int .i64 a.hit) ∧ wz.cell? ⟨P, 3, none⟩ = some (.int .i64 a.every) ∧ wz.cell? ⟨P, 4, none⟩ = some (.int .i64 a.reach) ∧ wz.cell? ⟨P, 5, none⟩ = some (.slice A' a.script.length c') ∧ wz.cell? ⟨P, 6, none⟩ = some (.slice A2 a.hoard.length c2) ∧ wz.cell? ⟨P, 7, none⟩ = some (.int .i64 a.drops)) := Lib.hid (fun wz hz => by
                  obtain ⟨d0, d1, d2, d3, d4, d5, d6, d7, d8, d9, q⟩ := HC.out wz (bstep hz HB9.out)
                  have g := oFo_cells ((hz.block _ (lt_of_heap HPZ.out)).trans HPZ.out)
                  rw [HAa.out] at d2
                  exact ⟨by rw [HAa.out]; exact d2, q, g⟩)
                generalize v3 = v9 at *
                clear HPZ
                go_wp2
                obtain ⟨hq1, hq2⟩ := HQ.out
                have hS0 : Below v9.heap.size v9 v9.drew := (Below.refl _ _).drew
                refine wp_region_noPanic ?_
                refine wp_region_held_drew (S := fun w' => Below v9.heap.size v9 w') (by kernel_rfl) hS0 (fun _ => ?_)
                generalize v9.drew = v0 at hS0 ⊢
                refine wpAnyH_take (i := 0) (oi := ⟨some 125, Op.move (Operand.tmp 13), 4, _, _, none⟩) (v := ?vb40) rfl (by kernel_rfl) (by kernel_rfl) (by kernel_rfl) (fun _ _ _ h => h) (Or.inl ⟨by rfl, ?hb40⟩) hS0 ?rb40
                case hb40 => (intro wz hSw; go_simp <;> with_reducible rfl)
                (try simp only [Act.put, List.setIfInBounds_toArray, List.set_cons_zero, List.set_cons_succ])
                refine wpAnyH_take (i := 1) (oi := ⟨some 126, Op.unOp UnOp.not 4 (Operand.tmp 125), 4, _, _, none⟩) (v := ?vb41) rfl (by kernel_rfl) (by kernel_rfl) (by kernel_rfl) (fun _ _ _ h => h) (Or.inl ⟨by rfl, ?hb41⟩) hS0 ?rb41
                case hb41 => (intro wz hSw; go_simp <;> with_reducible rfl)
                (try simp only [Act.put, List.setIfInBounds_toArray, List.set_cons_zero, List.set_cons_succ])
                refine wpAnyH_take (i := 2) (oi := ⟨some 127, Op.move (Operand.tmp 126), 4, _, _, none⟩) (v := ?vb42) rfl (by kernel_rfl) (by kernel_rfl) (by kernel_rfl) (fun _ _ _ h => h) (Or.inl ⟨by rfl, ?hb42⟩) hS0 ?rb42
                case hb42 => (intro wz hSw; go_simp <;> with_reducible rfl)
                (try simp only [Act.put, List.setIfInBounds_toArray, List.set_cons_zero, List.set_cons_succ])
                refine wpAnyH_take (i := 3) (oi := ⟨some 128, Op.load 47 (Operand.tmp 12), 47, _, _, some (2, false)⟩) (v := ?vb43) rfl (by kernel_rfl) (by kernel_rfl) (by kernel_rfl) (fun _ _ _ h => h) (Or.inl ⟨by rfl, ?hb43⟩) hS0 ?rb43
                case hb43 => (intro wz hSw; obtain ⟨d2, ⟨c0, c1, c2, c3, c4, c5, c6, c7⟩, e0, e1, e2, e3, e4, e5, e6, e7⟩ := HC9.out wz hSw; rw [HAa.out] at d2; go_simp <;> with_reducible rfl)
                (try simp only [Act.put, List.setIfInBounds_toArray, List.set_cons_zero, List.set_cons_succ])
                refine wpAnyH_take (i := 4) (oi := ⟨some 129, Op.fieldAddr 31 (Operand.tmp 1) 2, 0, _, _, some (2, false)⟩) (v := ?vb44) rfl (by kernel_rfl) (by kernel_rfl) (by kernel_rfl) (fun _ _ _ h => h) (Or.inl ⟨by rfl, ?hb44⟩) hS0 ?rb44
                case hb44 => (intro wz hSw; go_simp <;> with_reducible rfl)
                (try simp only [Act.put, List.setIfInBounds_toArray, List.set_cons_zero, List.set_cons_succ])
                refine wpAnyH_take (i := 5) (oi := ⟨some 130, Op.load 24 (Operand.tmp 129), 24, _, _, some (2, false)⟩) (v := ?vb45) rfl (by kernel_rfl) (by kernel_rfl) (by kernel_rfl) (fun _ _ _ h => h) (Or.inl ⟨by rfl, ?hb45⟩) hS0 ?rb45
                case hb45 => (intro wz hSw; obtain ⟨d2, ⟨c0, c1, c2, c3, c4, c5, c6, c7⟩, e0, e1, e2, e3, e4, e5, e6, e7⟩ := HC9.out wz hSw; rw [HAa.out] at d2; go_simp <;> with_reducible rfl)
                (try simp only [Act.put, List.setIfInBounds_toArray, List.set_cons_zero, List.set_cons_succ])
                refine wpAnyH_take (i := 6) (oi := ⟨some 131, Op.move (Operand.tmp 11), 3, _, _, some (2, false)⟩) (v := ?vb46) rfl (by kernel_rfl) (by kernel_rfl) (by kernel_rfl) (fun _ _ _ h => h) (Or.inl ⟨by rfl, ?hb46⟩) hS0 ?rb46
                case hb46 => (intro wz hSw; go_simp <;> with_reducible rfl)
                (try simp only [Act.put, List.setIfInBounds_toArray, List.set_cons_zero, List.set_cons_succ])
                refine wpAnyH_take (i := 7) (oi := ⟨some 132, Op.indexAddr 24 (Operand.tmp 130) (Operand.tmp 131), 0, _, _, some (2, false)⟩) (v := ?vb47) rfl (by kernel_rfl) (by kernel_rfl) (by kernel_rfl) (fun _ _ _ h => h) (Or.inl ⟨by rfl, ?hb47⟩) hS0 ?rb47
                case hb47 => (intro wz hSw; go_simp <;> with_reducible rfl)
                (try simp only [Act.put, List.setIfInBounds_toArray, List.set_cons_zero, List.set_cons_succ])
                refine wpAnyH_take (i := 8) (oi := ⟨some 133, Op.load 47 (Operand.tmp 132), 47, _, _, some (2, false)⟩) (v := ?vb48) rfl (by kernel_rfl) (by kernel_rfl) (by kernel_rfl) (fun _ _ _ h => h) (Or.inl ⟨by rfl, ?hb48⟩) hS0 ?rb48
                case hb48 => (intro wz hSw; obtain ⟨d2, ⟨c0, c1, c2, c3, c4, c5, c6, c7⟩, e0, e1, e2, e3, e4, e5, e6, e7⟩ := HC9.out wz hSw; rw [HAa.out] at d2; go_simp <;> with_reducible rfl)
                (try simp only [Act.put, List.setIfInBounds_toArray, List.set_cons_zero, List.set_cons_succ])
                refine wpAnyH_ready (rs := [9]) (by kernel_rfl) (by simp) ?_
                refine AllReadyH.cons (o := ⟨some 134, Op.call { callee := Callee.value (Operand.func 15), args := #[Operand.tmp 128, Operand.tmp 133], argTypes := #[47, 47] }, 4, _, _, some (2, false)⟩) rfl (fun K hK => ?_) AllReadyH.nil
                go_simp
                (with_reducible refine (rsameFo (a.re A' c' A2 c2) a (HRE.out.below hS0 (Nat.le_refl _)) (HRa.out.below hS0 (Nat.le_refl _)) (HRH.out.below hS0 (Nat.le_refl _)) (HRb.out.below hS0 (Nat.le_refl _)) hS0.size HLe.out HLh.out true ⟨fun _ => rfl, fun _ => rfl⟩).mono ?_); rintro e u5 ⟨rfl, hB5⟩; have hS5 := bstep hB5 hS0
                refine hK.out _ _ hS5 (fun _ => ?_)
                clear hK K
                (try simp only [Act.put, List.setIfInBounds_toArray, List.set_cons_zero, List.set_cons_succ])
                refine wpAnyH_take (i := 10) (oi := ⟨some 135, Op.unOp UnOp.not 4 (Operand.tmp 134), 4, _, _, some (2, false)⟩) (v := ?vb410) rfl (by kernel_rfl) (by kernel_rfl) (by kernel_rfl) (fun _ _ _ h => h) (Or.inl ⟨by rfl, ?hb410⟩) hS5 ?rb410
                case hb410 => (intro wz hSw; go_simp <;> with_reducible rfl)
                (try simp only [Act.put, List.setIfInBounds_toArray, List.set_cons_zero, List.set_cons_succ])
                refine wpAnyH_take (i := 11) (oi := ⟨some 136, Op.pick (Operand.tmp 127) (Operand.const (Value.bool true)) (Operand.tmp 135), 4, _, _, none⟩) (v := ?vb411) rfl (by kernel_rfl) (by kernel_rfl) (by kernel_rfl) (fun _ _ _ h => h) (Or.inl ⟨by rfl, ?hb411⟩) hS5 ?rb411
                case hb411 => (intro wz hSw; go_simp <;> with_reducible rfl)
                (try simp only [Act.put, List.setIfInBounds_toArray, List.set_cons_zero, List.set_cons_succ])
                refine wpAnyH_take (i := 12) (oi := ⟨some 137, Op.move (Operand.tmp 136), 4, _, _, none⟩) (v := ?vb412) rfl (by kernel_rfl) (by kernel_rfl) (by kernel_rfl) (fun _ _ _ h => h) (Or.inl ⟨by rfl, ?hb412⟩) hS5 ?rb412
                case hb412 => (intro wz hSw; go_simp <;> with_reducible rfl)
                (try simp only [Act.put, List.setIfInBounds_toArray, List.set_cons_zero, List.set_cons_succ])
                refine wpAnyH_take (i := 13) (oi := ⟨some 138, Op.fieldAddr 47 (Operand.tmp 12) 1, 0, _, _, some (12, false)⟩) (v := ?vb413) rfl (by kernel_rfl) (by kernel_rfl) (by kernel_rfl) (fun _ _ _ h => h) (Or.inl ⟨by rfl, ?hb413⟩) hS5 ?rb413
                case hb413 => (intro wz hSw; go_simp <;> with_reducible rfl)
                (try simp only [Act.put, List.setIfInBounds_toArray, List.set_cons_zero, List.set_cons_succ])
                refine wpAnyH_take (i := 14) (oi := ⟨some 139, Op.load 3 (Operand.tmp 138), 3, _, _, some (12, false)⟩) (v := ?vb414) rfl (by kernel_rfl) (by kernel_rfl) (by kernel_rfl) (fun _ _ _ h => h) (Or.inl ⟨by rfl, ?hb414⟩) hS5 ?rb414
                case hb414 => (intro wz hSw; obtain ⟨d2, ⟨c0, c1, c2, c3, c4, c5, c6, c7⟩, e0, e1, e2, e3, e4, e5, e6, e7⟩ := HC9.out wz hSw; rw [HAa.out] at d2; go_simp <;> with_reducible rfl)
                (try simp only [Act.put, List.setIfInBounds_toArray, List.set_cons_zero, List.set_cons_succ])
                refine wpAnyH_take (i := 15) (oi := ⟨some 140, Op.binOp BinOp.lss 3 (Operand.tmp 139) (Operand.const (Value.int IntKind.i64 1)) 3, 4, _, _, some (12, false)⟩) (v := ?vb415) rfl (by kernel_rfl) (by kernel_rfl) (by kernel_rfl) (fun _ _ _ h => h) (Or.inl ⟨by rfl, ?hb415⟩) hS5 ?rb415
                case hb415 => (intro wz hSw; go_simp <;> with_reducible rfl)
                (try simp only [Act.put, List.setIfInBounds_toArray, List.set_cons_zero, List.set_cons_succ])
                refine wpAnyH_take (i := 16) (oi := ⟨some 141, Op.pick (Operand.tmp 137) (Operand.const (Value.bool true)) (Operand.tmp 140), 4, _, _, none⟩) (v := ?vb416) rfl (by kernel_rfl) (by kernel_rfl) (by kernel_rfl) (fun _ _ _ h => h) (Or.inl ⟨by rfl, ?hb416⟩) hS5 ?rb416
                case hb416 => (intro wz hSw; go_simp <;> with_reducible rfl)
                (try simp only [Act.put, List.setIfInBounds_toArray, List.set_cons_zero, List.set_cons_succ])
                refine wpAnyH_take (i := 17) (oi := ⟨some 142, Op.move (Operand.tmp 141), 4, _, _, none⟩) (v := ?vb417) rfl (by kernel_rfl) (by kernel_rfl) (by kernel_rfl) (fun _ _ _ h => h) (Or.inl ⟨by rfl, ?hb417⟩) hS5 ?rb417
                case hb417 => (intro wz hSw; go_simp <;> with_reducible rfl)
                (try simp only [Act.put, List.setIfInBounds_toArray, List.set_cons_zero, List.set_cons_succ])
                refine wpAnyH_take (i := 18) (oi := ⟨some 143, Op.fieldAddr 47 (Operand.tmp 12) 3, 0, _, _, some (17, false)⟩) (v := ?vb418) rfl (by kernel_rfl) (by kernel_rfl) (by kernel_rfl) (fun _ _ _ h => h) (Or.inl ⟨by rfl, ?hb418⟩) hS5 ?rb418
                case hb418 => (intro wz hSw; go_simp <;> with_reducible rfl)
                (try simp only [Act.put, List.setIfInBounds_toArray, List.set_cons_zero, List.set_cons_succ])
                refine wpAnyH_take (i := 19) (oi := ⟨some 144, Op.load 3 (Operand.tmp 143), 3, _, _, some (17, false)⟩) (v := ?vb419) rfl (by kernel_rfl) (by kernel_rfl) (by kernel_rfl) (fun _ _ _ h => h) (Or.inl ⟨by rfl, ?hb419⟩) hS5 ?rb419
                case hb419 => (intro wz hSw; obtain ⟨d2, ⟨c0, c1, c2, c3, c4, c5, c6, c7⟩, e0, e1, e2, e3, e4, e5, e6, e7⟩ := HC9.out wz hSw; rw [HAa.out] at d2; go_simp <;> with_reducible rfl)
                (try simp only [Act.put, List.setIfInBounds_toArray, List.set_cons_zero, List.set_cons_succ])
                refine wpAnyH_take (i := 20) (oi := ⟨some 145, Op.binOp BinOp.lss 3 (Operand.tmp 144) (Operand.const (Value.int IntKind.i64 1)) 3, 4, _, _, some (17, false)⟩) (v := ?vb420) rfl (by kernel_rfl) (by kernel_rfl) (by kernel_rfl) (fun _ _ _ h => h) (Or.inl ⟨by rfl, ?hb420⟩) hS5 ?rb420
                case hb420 => (intro wz hSw; go_simp <;> with_reducible rfl)
                (try simp only [Act.put, List.setIfInBounds_toArray, List.set_cons_zero, List.set_cons_succ])
                refine wpAnyH_take (i := 21) (oi := ⟨some 146, Op.pick (Operand.tmp 142) (Operand.const (Value.bool true)) (Operand.tmp 145), 4, _, _, none⟩) (v := ?vb421) rfl (by kernel_rfl) (by kernel_rfl) (by kernel_rfl) (fun _ _ _ h => h) (Or.inl ⟨by rfl, ?hb421⟩) hS5 ?rb421
                case hb421 => (intro wz hSw; go_simp <;> with_reducible rfl)
                (try simp only [Act.put, List.setIfInBounds_toArray, List.set_cons_zero, List.set_cons_succ])
                refine wpAnyH_done (by kernel_rfl) ?_ _
                refine NoPanic.normal ?_
                have HB10 := Lib.hid (bstep hS5 HB9.out)
                clear hq1 hq2
                go_wp2
                go_roundg (c.fo.length - (k + 1))
                case measure => have := HK.out; omega
                case rel => have hb9 := HKb.out; exact ⟨k + 1, HK.out, rfl, (by first | exact nx hb9 | go_num), HB10⟩
              · go_simp
                have hZ6 := heap_alloc_new v0 zcFo; have hge := hS0.size; have hS6 := hS0.alloc hS0.size zcFo; have hsz : v0.heap.size < (v0.alloc zcFo).heap.size := (by simp); clear hsz; generalize hP : v0.heap.size = P at hZ6 hge ⊢; generalize hV : v0.alloc zcFo = v6 at hZ6 hS6 ⊢; clear hP hV
                refine hK.out _ _ hS6 (fun _ => ?_)
                clear hK K
                (try simp only [Act.put, List.setIfInBounds_toArray, List.set_cons_zero, List.set_cons_succ])
                refine wpAnyH_ready (rs := [7]) (by kernel_rfl) (by simp) ?_
                refine AllReadyH.cons (o := ⟨some 122, Op.call { callee := Callee.value (Operand.func 12), args := #[Operand.tmp 115, Operand.tmp 121], argTypes := #[31, 3] }, 48, _, _, none⟩) rfl (fun K hK => ?_) AllReadyH.nil
                go_simp
                (with_reducible refine (foe_any (HR.out.below hS6 HBV.out) (Nat.le_trans HBV.out hS6.size) HSm.out a.id a true HFD.out).mono ?_); rintro e v7 ⟨A', c', A2, c2, rfl, HO, HO2, hB7⟩; have hS7 := bstep hB7 hS6; have hlt7 := lt_of_heap hZ6; have hZ7 := (hB7.block _ hlt7).trans hZ6; have hE7_0 := rw_old (HO.out.pw) hlt7; have hE7_1 := rw_old (HO2.out.pw) hlt7
                refine hK.out _ _ hS7 (fun _ => ?_)
                clear hK K
                (try simp only [Act.put, List.setIfInBounds_toArray, List.set_cons_zero, List.set_cons_succ])
                refine wpAnyH_take (i := 8) (oi := ⟨some 114, Op.move (Operand.tmp 122), 48, _, _, none⟩) (v := ?vdb118) rfl (by kernel_rfl) (by kernel_rfl) (by kernel_rfl) (fun _ _ _ h => h) (Or.inl ⟨by rfl, ?hdb118⟩) hS7 ?rdb118
                case hdb118 => (intro wz hSw; go_simp <;> with_reducible rfl)
                (try simp only [Act.put, List.setIfInBounds_toArray, List.set_cons_zero, List.set_cons_succ])
                refine wpAnyH_take (i := 9) (oi := ⟨some 123, Op.extract (Operand.tmp 114) 0, 47, _, _, none⟩) (v := ?vdb119) rfl (by kernel_rfl) (by kernel_rfl) (by kernel_rfl) (fun _ _ _ h => h) (Or.inl ⟨by rfl, ?hdb119⟩) hS7 ?rdb119
                case hdb119 => (intro wz hSw; go_simp <;> with_reducible rfl)
                (try simp only [Act.put, List.setIfInBounds_toArray, List.set_cons_zero, List.set_cons_succ])
                refine wpAnyH_take (i := 10) (oi := ⟨some 124, Op.extract (Operand.tmp 114) 1, 4, _, _, none⟩) (v := ?vdb1110) rfl (by kernel_rfl) (by kernel_rfl) (by kernel_rfl) (fun _ _ _ h => h) (Or.inl ⟨by rfl, ?hdb1110⟩) hS7 ?rdb1110
                case hdb1110 => (intro wz hSw; go_simp <;> with_reducible rfl)
                (try simp only [Act.put, List.setIfInBounds_toArray, List.set_cons_zero, List.set_cons_succ])
                refine wpAnyH_ready (rs := [12]) (by kernel_rfl) (by simp) ?_
                refine AllReadyH.cons (o := ⟨none, Op.store 47 (Operand.tmp 12) (Operand.tmp 123), 0, _, _, none⟩) rfl (fun K hK => ?_) AllReadyH.nil
                have z := cell_of hZ7; have y := froz_of hZ7
                go_simp
                rw [eight0]; have hPZ := put8 hZ7 (.int .i64 a.id) (.int .i64 a.health) (.int .i64 a.hit) (.int .i64 a.every) (.int .i64 a.reach) (.slice A' a.script.length c') (.slice A2 a.hoard.length c2) (.int .i64 a.drops); have hS8 := below_setCells P hge [.int .i64 a.id, .int .i64 a.health, .int .i64 a.hit, .int .i64 a.every, .int .i64 a.reach, .slice A' a.script.length c', .slice A2 a.hoard.length c2, .int .i64 a.drops] 0 v7 hS7; have hRE0 := hE7_0 0 [.int .i64 a.id, .int .i64 a.health, .int .i64 a.hit, .int .i64 a.every, .int .i64 a.reach, .slice A' a.script.length c', .slice A2 a.hoard.length c2, .int .i64 a.drops]; have hRE1 := hE7_1 0 [.int .i64 a.id, .int .i64 a.health, .int .i64 a.hit, .int .i64 a.every, .int .i64 a.reach, .slice A' a.script.length c', .slice A2 a.hoard.length c2, .int .i64 a.drops]; clear z y; generalize hN : World.setCells v7 P 0 _ = v8 at hPZ hS8 hRE0 hRE1 ⊢; clear hN
                refine hK.out _ _ hS8 (fun _ => ?_)
                clear hK K
                (try simp only [Act.put, List.setIfInBounds_toArray, List.set_cons_zero, List.set_cons_succ])
                refine wpAnyH_take (i := 13) (oi := ⟨some 13, Op.assign (Operand.tmp 124), 4, _, _, none⟩) (v := ?vdb1113) rfl (by kernel_rfl) (by kernel_rfl) (by kernel_rfl) (fun _ _ _ h => h) (Or.inl ⟨by rfl, ?hdb1113⟩) hS8 ?rdb1113
                case hdb1113 => (intro wz hSw; go_simp <;> with_reducible rfl)
                (try simp only [Act.put, List.setIfInBounds_toArray, List.set_cons_zero, List.set_cons_succ])
                refine wpAnyH_done (by kernel_rfl) ?_ _
                refine NoPanic.normal ?_
                have HB9 := Lib.hid hS8; have HPZ : Hid (v8.heap[P]? = some (oFo (a.re A' c' A2 c2))) := Lib.hid hPZ; have HRE := Lib.hid hRE0; have HRH := Lib.hid hRE1
                clear hPZ hRE0 hRE1 hge
                have HRa : Hid (RW ln v8 v8.heap.size a.sa a.script) := Lib.hid (((HR.out.scrs a HMem.out).below HB9.out HBV.out).more (Nat.le_trans HBV.out HB9.out.size))
                have HRb : Hid (RW pz v8 v8.heap.size a.ha a.hoard) := Lib.hid (((HR.out.hors a HMem.out).below HB9.out HBV.out).more (Nat.le_trans HBV.out HB9.out.size))
                have HC9 : Hid (∀ wz, Below v8.heap.size v8 wz → wz.cell? ⟨W.heap.size, 2, none⟩ = some (.slice c.fA c.fo.length c.fC) ∧ (wz.cell? ⟨p, off + k * 8, none⟩ = some (.int .i64 a.id) ∧ wz.cell? ⟨p, off + k * 8 + 1, none⟩ = some (.int .i64 a.health) ∧ wz.cell? ⟨p, off + k * 8 + 2, none⟩ = some (.int .i64 a.hit) ∧ wz.cell? ⟨p, off + k * 8 + 3, none⟩ = some (.int .i64 a.every) ∧ wz.cell? ⟨p, off + k * 8 + 4, none⟩ = some (.int .i64 a.reach) ∧ wz.cell? ⟨p, off + k * 8 + 5, none⟩ = some (.slice a.sa a.script.length a.sc) ∧ wz.cell? ⟨p, off + k * 8 + 6, none⟩ = some (.slice a.ha a.hoard.length a.hc) ∧ wz.cell? ⟨p, off + k * 8 + 7, none⟩ = some (.int .i64 a.drops)) ∧ wz.cell? ⟨P, 0, none⟩ = some (.int .i64 a.id) ∧ wz.cell? ⟨P, 1, none⟩ = some (.int .i64 a.health) ∧ wz.cell? ⟨P, 2, none⟩ = some (.int .i64 a.hit) ∧ wz.cell? ⟨P, 3, none⟩ = some (.int .i64 a.every) ∧ wz.cell? ⟨P, 4, none⟩ = some (.int .i64 a.reach) ∧ wz.cell? ⟨P, 5, none⟩ = some (.slice A' a.script.length c') ∧ wz.cell? ⟨P, 6, none⟩ = some (.slice A2 a.hoard.length c2) ∧ wz.cell? ⟨P, 7, none⟩ = some (.int .i64 a.drops)) := Lib.hid (fun wz hz => by
                  obtain ⟨d0, d1, d2, d3, d4, d5, d6, d7, d8, d9, q⟩ := HC.out wz (bstep hz HB9.out)
                  have g := oFo_cells ((hz.block _ (lt_of_heap HPZ.out)).trans HPZ.out)
                  rw [HAa.out] at d2
                  exact ⟨by rw [HAa.out]; exact d2, q, g⟩)
                generalize v8 = v9 at *
                clear HPZ
                go_wp2
                obtain ⟨hq1, hq2⟩ := HQ.out
                have hS0 : Below v9.heap.size v9 v9.drew := (Below.refl _ _).drew
                refine wp_region_noPanic ?_
                refine wp_region_held_drew (S := fun w' => Below v9.heap.size v9 w') (by kernel_rfl) hS0 (fun _ => ?_)
                generalize v9.drew = v0 at hS0 ⊢
                refine wpAnyH_take (i := 0) (oi := ⟨some 125, Op.move (Operand.tmp 13), 4, _, _, none⟩) (v := ?vb90) rfl (by kernel_rfl) (by kernel_rfl) (by kernel_rfl) (fun _ _ _ h => h) (Or.inl ⟨by rfl, ?hb90⟩) hS0 ?rb90
                case hb90 => (intro wz hSw; go_simp <;> with_reducible rfl)
                (try simp only [Act.put, List.setIfInBounds_toArray, List.set_cons_zero, List.set_cons_succ])
                refine wpAnyH_take (i := 1) (oi := ⟨some 126, Op.unOp UnOp.not 4 (Operand.tmp 125), 4, _, _, none⟩) (v := ?vb91) rfl (by kernel_rfl) (by kernel_rfl) (by kernel_rfl) (fun _ _ _ h => h) (Or.inl ⟨by rfl, ?hb91⟩) hS0 ?rb91
                case hb91 => (intro wz hSw; go_simp <;> with_reducible rfl)
                (try simp only [Act.put, List.setIfInBounds_toArray, List.set_cons_zero, List.set_cons_succ])
                refine wpAnyH_take (i := 2) (oi := ⟨some 127, Op.move (Operand.tmp 126), 4, _, _, none⟩) (v := ?vb92) rfl (by kernel_rfl) (by kernel_rfl) (by kernel_rfl) (fun _ _ _ h => h) (Or.inl ⟨by rfl, ?hb92⟩) hS0 ?rb92
                case hb92 => (intro wz hSw; go_simp <;> with_reducible rfl)
                (try simp only [Act.put, List.setIfInBounds_toArray, List.set_cons_zero, List.set_cons_succ])
                refine wpAnyH_take (i := 3) (oi := ⟨some 128, Op.load 47 (Operand.tmp 12), 47, _, _, some (2, false)⟩) (v := ?vb93) rfl (by kernel_rfl) (by kernel_rfl) (by kernel_rfl) (fun _ _ _ h => h) (Or.inl ⟨by rfl, ?hb93⟩) hS0 ?rb93
                case hb93 => (intro wz hSw; obtain ⟨d2, ⟨c0, c1, c2, c3, c4, c5, c6, c7⟩, e0, e1, e2, e3, e4, e5, e6, e7⟩ := HC9.out wz hSw; rw [HAa.out] at d2; go_simp <;> with_reducible rfl)
                (try simp only [Act.put, List.setIfInBounds_toArray, List.set_cons_zero, List.set_cons_succ])
                refine wpAnyH_take (i := 4) (oi := ⟨some 129, Op.fieldAddr 31 (Operand.tmp 1) 2, 0, _, _, some (2, false)⟩) (v := ?vb94) rfl (by kernel_rfl) (by kernel_rfl) (by kernel_rfl) (fun _ _ _ h => h) (Or.inl ⟨by rfl, ?hb94⟩) hS0 ?rb94
                case hb94 => (intro wz hSw; go_simp <;> with_reducible rfl)
                (try simp only [Act.put, List.setIfInBounds_toArray, List.set_cons_zero, List.set_cons_succ])
                refine wpAnyH_take (i := 5) (oi := ⟨some 130, Op.load 24 (Operand.tmp 129), 24, _, _, some (2, false)⟩) (v := ?vb95) rfl (by kernel_rfl) (by kernel_rfl) (by kernel_rfl) (fun _ _ _ h => h) (Or.inl ⟨by rfl, ?hb95⟩) hS0 ?rb95
                case hb95 => (intro wz hSw; obtain ⟨d2, ⟨c0, c1, c2, c3, c4, c5, c6, c7⟩, e0, e1, e2, e3, e4, e5, e6, e7⟩ := HC9.out wz hSw; rw [HAa.out] at d2; go_simp <;> with_reducible rfl)
                (try simp only [Act.put, List.setIfInBounds_toArray, List.set_cons_zero, List.set_cons_succ])
                refine wpAnyH_take (i := 6) (oi := ⟨some 131, Op.move (Operand.tmp 11), 3, _, _, some (2, false)⟩) (v := ?vb96) rfl (by kernel_rfl) (by kernel_rfl) (by kernel_rfl) (fun _ _ _ h => h) (Or.inl ⟨by rfl, ?hb96⟩) hS0 ?rb96
                case hb96 => (intro wz hSw; go_simp <;> with_reducible rfl)
                (try simp only [Act.put, List.setIfInBounds_toArray, List.set_cons_zero, List.set_cons_succ])
                refine wpAnyH_take (i := 7) (oi := ⟨some 132, Op.indexAddr 24 (Operand.tmp 130) (Operand.tmp 131), 0, _, _, some (2, false)⟩) (v := ?vb97) rfl (by kernel_rfl) (by kernel_rfl) (by kernel_rfl) (fun _ _ _ h => h) (Or.inl ⟨by rfl, ?hb97⟩) hS0 ?rb97
                case hb97 => (intro wz hSw; go_simp <;> with_reducible rfl)
                (try simp only [Act.put, List.setIfInBounds_toArray, List.set_cons_zero, List.set_cons_succ])
                refine wpAnyH_take (i := 8) (oi := ⟨some 133, Op.load 47 (Operand.tmp 132), 47, _, _, some (2, false)⟩) (v := ?vb98) rfl (by kernel_rfl) (by kernel_rfl) (by kernel_rfl) (fun _ _ _ h => h) (Or.inl ⟨by rfl, ?hb98⟩) hS0 ?rb98
                case hb98 => (intro wz hSw; obtain ⟨d2, ⟨c0, c1, c2, c3, c4, c5, c6, c7⟩, e0, e1, e2, e3, e4, e5, e6, e7⟩ := HC9.out wz hSw; rw [HAa.out] at d2; go_simp <;> with_reducible rfl)
                (try simp only [Act.put, List.setIfInBounds_toArray, List.set_cons_zero, List.set_cons_succ])
                refine wpAnyH_ready (rs := [9]) (by kernel_rfl) (by simp) ?_
                refine AllReadyH.cons (o := ⟨some 134, Op.call { callee := Callee.value (Operand.func 15), args := #[Operand.tmp 128, Operand.tmp 133], argTypes := #[47, 47] }, 4, _, _, some (2, false)⟩) rfl (fun K hK => ?_) AllReadyH.nil
                go_simp
                (with_reducible refine (rsameFo (a.re A' c' A2 c2) a (HRE.out.below hS0 (Nat.le_refl _)) (HRa.out.below hS0 (Nat.le_refl _)) (HRH.out.below hS0 (Nat.le_refl _)) (HRb.out.below hS0 (Nat.le_refl _)) hS0.size HLe.out HLh.out true ⟨fun _ => rfl, fun _ => rfl⟩).mono ?_); rintro e u10 ⟨rfl, hB10⟩; have hS10 := bstep hB10 hS0
                refine hK.out _ _ hS10 (fun _ => ?_)
                clear hK K
                (try simp only [Act.put, List.setIfInBounds_toArray, List.set_cons_zero, List.set_cons_succ])
                refine wpAnyH_take (i := 10) (oi := ⟨some 135, Op.unOp UnOp.not 4 (Operand.tmp 134), 4, _, _, some (2, false)⟩) (v := ?vb910) rfl (by kernel_rfl) (by kernel_rfl) (by kernel_rfl) (fun _ _ _ h => h) (Or.inl ⟨by rfl, ?hb910⟩) hS10 ?rb910
                case hb910 => (intro wz hSw; go_simp <;> with_reducible rfl)
                (try simp only [Act.put, List.setIfInBounds_toArray, List.set_cons_zero, List.set_cons_succ])
                refine wpAnyH_take (i := 11) (oi := ⟨some 136, Op.pick (Operand.tmp 127) (Operand.const (Value.bool true)) (Operand.tmp 135), 4, _, _, none⟩) (v := ?vb911) rfl (by kernel_rfl) (by kernel_rfl) (by kernel_rfl) (fun _ _ _ h => h) (Or.inl ⟨by rfl, ?hb911⟩) hS10 ?rb911
                case hb911 => (intro wz hSw; go_simp <;> with_reducible rfl)
                (try simp only [Act.put, List.setIfInBounds_toArray, List.set_cons_zero, List.set_cons_succ])
                refine wpAnyH_take (i := 12) (oi := ⟨some 137, Op.move (Operand.tmp 136), 4, _, _, none⟩) (v := ?vb912) rfl (by kernel_rfl) (by kernel_rfl) (by kernel_rfl) (fun _ _ _ h => h) (Or.inl ⟨by rfl, ?hb912⟩) hS10 ?rb912
                case hb912 => (intro wz hSw; go_simp <;> with_reducible rfl)
                (try simp only [Act.put, List.setIfInBounds_toArray, List.set_cons_zero, List.set_cons_succ])
                refine wpAnyH_take (i := 13) (oi := ⟨some 138, Op.fieldAddr 47 (Operand.tmp 12) 1, 0, _, _, some (12, false)⟩) (v := ?vb913) rfl (by kernel_rfl) (by kernel_rfl) (by kernel_rfl) (fun _ _ _ h => h) (Or.inl ⟨by rfl, ?hb913⟩) hS10 ?rb913
                case hb913 => (intro wz hSw; go_simp <;> with_reducible rfl)
                (try simp only [Act.put, List.setIfInBounds_toArray, List.set_cons_zero, List.set_cons_succ])
                refine wpAnyH_take (i := 14) (oi := ⟨some 139, Op.load 3 (Operand.tmp 138), 3, _, _, some (12, false)⟩) (v := ?vb914) rfl (by kernel_rfl) (by kernel_rfl) (by kernel_rfl) (fun _ _ _ h => h) (Or.inl ⟨by rfl, ?hb914⟩) hS10 ?rb914
                case hb914 => (intro wz hSw; obtain ⟨d2, ⟨c0, c1, c2, c3, c4, c5, c6, c7⟩, e0, e1, e2, e3, e4, e5, e6, e7⟩ := HC9.out wz hSw; rw [HAa.out] at d2; go_simp <;> with_reducible rfl)
                (try simp only [Act.put, List.setIfInBounds_toArray, List.set_cons_zero, List.set_cons_succ])
                refine wpAnyH_take (i := 15) (oi := ⟨some 140, Op.binOp BinOp.lss 3 (Operand.tmp 139) (Operand.const (Value.int IntKind.i64 1)) 3, 4, _, _, some (12, false)⟩) (v := ?vb915) rfl (by kernel_rfl) (by kernel_rfl) (by kernel_rfl) (fun _ _ _ h => h) (Or.inl ⟨by rfl, ?hb915⟩) hS10 ?rb915
                case hb915 => (intro wz hSw; go_simp <;> with_reducible rfl)
                (try simp only [Act.put, List.setIfInBounds_toArray, List.set_cons_zero, List.set_cons_succ])
                refine wpAnyH_take (i := 16) (oi := ⟨some 141, Op.pick (Operand.tmp 137) (Operand.const (Value.bool true)) (Operand.tmp 140), 4, _, _, none⟩) (v := ?vb916) rfl (by kernel_rfl) (by kernel_rfl) (by kernel_rfl) (fun _ _ _ h => h) (Or.inl ⟨by rfl, ?hb916⟩) hS10 ?rb916
                case hb916 => (intro wz hSw; go_simp <;> with_reducible rfl)
                (try simp only [Act.put, List.setIfInBounds_toArray, List.set_cons_zero, List.set_cons_succ])
                refine wpAnyH_take (i := 17) (oi := ⟨some 142, Op.move (Operand.tmp 141), 4, _, _, none⟩) (v := ?vb917) rfl (by kernel_rfl) (by kernel_rfl) (by kernel_rfl) (fun _ _ _ h => h) (Or.inl ⟨by rfl, ?hb917⟩) hS10 ?rb917
                case hb917 => (intro wz hSw; go_simp <;> with_reducible rfl)
                (try simp only [Act.put, List.setIfInBounds_toArray, List.set_cons_zero, List.set_cons_succ])
                refine wpAnyH_take (i := 18) (oi := ⟨some 143, Op.fieldAddr 47 (Operand.tmp 12) 3, 0, _, _, some (17, false)⟩) (v := ?vb918) rfl (by kernel_rfl) (by kernel_rfl) (by kernel_rfl) (fun _ _ _ h => h) (Or.inl ⟨by rfl, ?hb918⟩) hS10 ?rb918
                case hb918 => (intro wz hSw; go_simp <;> with_reducible rfl)
                (try simp only [Act.put, List.setIfInBounds_toArray, List.set_cons_zero, List.set_cons_succ])
                refine wpAnyH_take (i := 19) (oi := ⟨some 144, Op.load 3 (Operand.tmp 143), 3, _, _, some (17, false)⟩) (v := ?vb919) rfl (by kernel_rfl) (by kernel_rfl) (by kernel_rfl) (fun _ _ _ h => h) (Or.inl ⟨by rfl, ?hb919⟩) hS10 ?rb919
                case hb919 => (intro wz hSw; obtain ⟨d2, ⟨c0, c1, c2, c3, c4, c5, c6, c7⟩, e0, e1, e2, e3, e4, e5, e6, e7⟩ := HC9.out wz hSw; rw [HAa.out] at d2; go_simp <;> with_reducible rfl)
                (try simp only [Act.put, List.setIfInBounds_toArray, List.set_cons_zero, List.set_cons_succ])
                refine wpAnyH_take (i := 20) (oi := ⟨some 145, Op.binOp BinOp.lss 3 (Operand.tmp 144) (Operand.const (Value.int IntKind.i64 1)) 3, 4, _, _, some (17, false)⟩) (v := ?vb920) rfl (by kernel_rfl) (by kernel_rfl) (by kernel_rfl) (fun _ _ _ h => h) (Or.inl ⟨by rfl, ?hb920⟩) hS10 ?rb920
                case hb920 => (intro wz hSw; go_simp <;> with_reducible rfl)
                (try simp only [Act.put, List.setIfInBounds_toArray, List.set_cons_zero, List.set_cons_succ])
                refine wpAnyH_take (i := 21) (oi := ⟨some 146, Op.pick (Operand.tmp 142) (Operand.const (Value.bool true)) (Operand.tmp 145), 4, _, _, none⟩) (v := ?vb921) rfl (by kernel_rfl) (by kernel_rfl) (by kernel_rfl) (fun _ _ _ h => h) (Or.inl ⟨by rfl, ?hb921⟩) hS10 ?rb921
                case hb921 => (intro wz hSw; go_simp <;> with_reducible rfl)
                (try simp only [Act.put, List.setIfInBounds_toArray, List.set_cons_zero, List.set_cons_succ])
                refine wpAnyH_done (by kernel_rfl) ?_ _
                refine NoPanic.normal ?_
                have HB10 := Lib.hid (bstep hS10 HB9.out)
                clear hq1 hq2
                go_wp2
                go_roundg (c.fo.length - (k + 1))
                case measure => have := HK.out; omega
                case rel => have hb9 := HKb.out; exact ⟨k + 1, HK.out, rfl, (by first | exact nx hb9 | go_num), HB10⟩
            · have hkl : decide ((k : Int) < c.fo.length) = false := by simp; omega
              have HB3 := HW
              have HIn : Hid (∀ V1 : World, Calls Try.prog 21 #[gv c.W c.H c.gA c.wl.length c.gC, pv c.dx c.dy] V1 fun e w' => e = .returned (.bool true) ∧ Below V1.heap.size V1 w') := Lib.hid (fun V1 => by
                have := in_any c.W c.H c.gA c.wl.length c.gC c.dx c.dy V1
                rw [HN.out.door] at this; exact this)
              have HWl : Hid (∀ V1 : World, Below V.heap.size V V1 → Calls Try.prog 22 #[gv c.W c.H c.gA c.wl.length c.gC, pv c.lx c.ly] V1 fun e w' => e = .returned (.bool false) ∧ Below V1.heap.size V1 w') := Lib.hid (fun V1 h1 => by
                have := wall_any c.W c.H c.gA c.wl c.gC c.lx c.ly V1 W.heap.size (HR.out.wls.below h1 HBV.out) (Nat.le_trans HBV.out h1.size)
                rw [HN.out.lair] at this; exact this)
              have t1 : decide ((64 : Int) < c.ab.length) = false := by have := HN.out.abn; simp; omega
              have t2 : decide ((64 : Int) < c.au.length) = false := by have := HN.out.aun; simp; omega
              have t3 : decide ((64 : Int) < c.fo.length) = false := by have := HN.out.fon; simp; omega
              have HNo : ∀ n, FD Fo.id zFo (c.cut n).fo 0 zFo false := fun n => fd_no zFo (fun a ha => (HN.out.fos a (mem_take ha)).2)
              by_cases hz : 0 < c.fo.length
              · obtain ⟨m, hm⟩ : ∃ m, c.fo.length = m + 1 := ⟨c.fo.length - 1, by omega⟩
                have hz2 : (0 : Int) < (m : Int) + 1 := by omega
                have hkl2 : decide ((k : Int) < (m : Int) + 1) = false := by simp; omega
                clear hkl
                have hlen : (c.fo.take m).length = m := by simp; omega
                have t4 : decide ((64 : Int) < (m : Int) + 1) = false := by have := HN.out.fon; simp; omega
                have hmb : (m : Int) ≤ 64 := by have := HN.out.fon; omega
                have hcp : m + 1 ≤ c.fC := by have := HCap.out; omega
                obtain ⟨f0, hf0⟩ : ∃ f, c.fo[0]? = some f := ⟨_, List.getElem?_eq_getElem (by omega)⟩
                obtain ⟨p, off, hA, _⟩ := rowFo HR.out.fos hf0 (Below.refl _ V) HBV.out
                have HAa := Lib.hid hA
                have HFo : Hid (∀ V1 : World, Below W.heap.size V V1 → Calls Try.prog 12 #[.agg #[.slice c.aA c.ab.length c.aC, .slice c.uA c.au.length c.uC, .slice c.fA m c.fC, .int .i64 c.W, .int .i64 c.H, .slice c.gA c.wl.length c.gC, .int .i64 c.dx, .int .i64 c.dy, .int .i64 c.lx, .int .i64 c.ly], .int .i64 0] V1 (fun e w' => ∃ A6 c6 A7 c7, e = .returned (.tuple #[.agg #[.int .i64 0, .int .i64 0, .int .i64 0, .int .i64 0, .int .i64 0, .slice A6 0 c6, .slice A7 0 c7, .int .i64 0], .bool false]) ∧ Below V1.heap.size V1 w')) := Lib.hid (fun V1 h1 => by
                  have this : Calls Try.prog 12 #[.agg #[.slice c.aA c.ab.length c.aC, .slice c.uA c.au.length c.uC, .slice c.fA (c.fo.take m).length c.fC, .int .i64 c.W, .int .i64 c.H, .slice c.gA c.wl.length c.gC, .int .i64 c.dx, .int .i64 c.dy, .int .i64 c.lx, .int .i64 c.ly], .int .i64 0] V1 (AnF V1 zFo false) := foe_any ((HR.out.cut m).below h1 (Nat.le_refl _)) (Nat.le_trans HBV.out h1.size) (HSm.out.cut m) 0 zFo false (HNo m)
                  rw [hlen] at this
                  refine this.mono ?_
                  rintro e w' ⟨A6, c6, A7, c7, rfl, _, _, hB⟩
                  exact ⟨A6, c6, A7, c7, rfl, hB⟩)
                have HRi : Hid (∀ V1 : World, Below W.heap.size V V1 → Calls Try.prog 20 #[.agg #[.slice c.aA c.ab.length c.aC, .slice c.uA c.au.length c.uC, .slice c.fA m c.fC, .int .i64 c.W, .int .i64 c.H, .slice c.gA c.wl.length c.gC, .int .i64 c.dx, .int .i64 c.dy, .int .i64 c.lx, .int .i64 c.ly]] V1 fun e w' => e = .returned (.bool true) ∧ Below V1.heap.size V1 w') := Lib.hid (fun V1 h1 => by
                  have this : Calls Try.prog 20 #[.agg #[.slice c.aA c.ab.length c.aC, .slice c.uA c.au.length c.uC, .slice c.fA (c.fo.take m).length c.fC, .int .i64 c.W, .int .i64 c.H, .slice c.gA c.wl.length c.gC, .int .i64 c.dx, .int .i64 c.dy, .int .i64 c.lx, .int .i64 c.ly]] V1 fun e w' => e = .returned (.bool true) ∧ Below V1.heap.size V1 w' := right_c ((HR.out.cut m).below h1 (Nat.le_refl _)) (Nat.le_trans HBV.out h1.size) (HSm.out.cut m) true ⟨fun _ => HRC.out.cut m, fun _ => rfl⟩
                  rw [hlen] at this; exact this)
                clear hf0 hA hz HNo hlen t3
                go_wp2_with (first
                  | ((with_reducible refine (HIn.out _).mono ?_); rintro e w4 ⟨rfl, hB4⟩; have hV4 := bstep hB4 HW.out; clear d0 d1 d2 d3 d4 d5 d6 d7 d8 d9; obtain ⟨d0, d1, d2, d3, d4, d5, d6, d7, d8, d9⟩ := HBox.out _ hV4)
                  | ((with_reducible refine (HWl.out _ hV4).mono ?_); rintro e w5 ⟨rfl, hB5⟩; have hV5 := bstep hB5 hV4; have hbx := (hV5.block _ HVs.out).trans HBX.out; have y5 := froz_of hbx; have hs5 := lt_of_heap hbx; clear d0 d1 d2 d3 d4 d5 d6 d7 d8 d9; obtain ⟨d0, d1, d2, d3, d4, d5, d6, d7, d8, d9⟩ := HBox.out _ hV5)
                  | ((with_reducible refine (HFo.out _ ((hV5.mono HBV.out).setCell (Nat.le_refl _) _)).mono ?_); rintro e w6 ⟨A6, c6, A7, c7, rfl, hB6⟩; have hb2 := heap_setCell_same w5 W.heap.size 2 _ 31 (.slice c.fA m c.fC) hbx; have hb6 := (hB6.block _ (lt_of_heap hb2)).trans hb2; have hW6 : Below W.heap.size V (w6.alloc (.cells #[.int .i64 0, .int .i64 0, .int .i64 0, .int .i64 0, .int .i64 0, .slice A6 0 c6, .slice A7 0 c7, .int .i64 0] 47)) := (((hV5.mono HBV.out).setCell (Nat.le_refl _) _).trans (hB6.mono (by have := hV5.size; have := HBV.out; simp; omega))).alloc (Nat.le_of_lt (lt_of_heap hb6)) _; have hs6 := lt_of_heap hb6; clear d0 d1 d2 d3 d4 d5 d6 d7 d8 d9; obtain ⟨d0, d1, d2, d3, d4, d5, d6, d7, d8, d9⟩ : w6.cell? ⟨W.heap.size, 0, none⟩ = some (.slice c.aA c.ab.length c.aC) ∧ w6.cell? ⟨W.heap.size, 1, none⟩ = some (.slice c.uA c.au.length c.uC) ∧ w6.cell? ⟨W.heap.size, 2, none⟩ = some (.slice c.fA m c.fC) ∧ w6.cell? ⟨W.heap.size, 3, none⟩ = some (.int .i64 c.W) ∧ w6.cell? ⟨W.heap.size, 4, none⟩ = some (.int .i64 c.H) ∧ w6.cell? ⟨W.heap.size, 5, none⟩ = some (.slice c.gA c.wl.length c.gC) ∧ w6.cell? ⟨W.heap.size, 6, none⟩ = some (.int .i64 c.dx) ∧ w6.cell? ⟨W.heap.size, 7, none⟩ = some (.int .i64 c.dy) ∧ w6.cell? ⟨W.heap.size, 8, none⟩ = some (.int .i64 c.lx) ∧ w6.cell? ⟨W.heap.size, 9, none⟩ = some (.int .i64 c.ly) := ⟨cell_of hb6 0, cell_of hb6 1, cell_of hb6 2, cell_of hb6 3, cell_of hb6 4, cell_of hb6 5, cell_of hb6 6, cell_of hb6 7, cell_of hb6 8, cell_of hb6 9⟩; clear hb2 hb6)
                  | ((with_reducible refine (HRi.out _ hW6).mono ?_); rintro e w7 ⟨rfl, hB7⟩; have hV7 := hW6.trans (hB7.mono (by have := hs6; simp; omega))))
                go_ret
                exact ⟨rfl, HB0.out.trans (hV7.mono (Nat.le_refl _))⟩
              · have hz2 : decide ((0 : Int) < c.fo.length) = false := by simp only [decide_eq_false_iff_not]; omega
                have HFo : Hid (∀ V1 : World, Below V.heap.size V V1 → Calls Try.prog 12 #[cnv c, .int .i64 0] V1 (fun e w' => ∃ A6 c6 A7 c7, e = .returned (.tuple #[.agg #[.int .i64 0, .int .i64 0, .int .i64 0, .int .i64 0, .int .i64 0, .slice A6 0 c6, .slice A7 0 c7, .int .i64 0], .bool false]) ∧ Below V1.heap.size V1 w')) := Lib.hid (fun V1 h1 => by
                  have h9 := HNo c.fo.length
                  rw [cut_all] at h9
                  refine (foe_any (HR.out.below h1 HBV.out) (Nat.le_trans HBV.out h1.size) HSm.out 0 zFo false h9).mono ?_
                  rintro e w' ⟨A6, c6, A7, c7, rfl, _, _, hB⟩
                  exact ⟨A6, c6, A7, c7, rfl, hB⟩)
                have HRi : Hid (∀ V1 : World, Below V.heap.size V V1 → Calls Try.prog 20 #[cnv c] V1 fun e w' => e = .returned (.bool true) ∧ Below V1.heap.size V1 w') := Lib.hid (fun V1 h1 =>
                  right_c (HR.out.below h1 HBV.out) (Nat.le_trans HBV.out h1.size) HSm.out true ⟨fun _ => HRC.out, fun _ => rfl⟩)
                clear HNo
                go_wp2_with (first
                  | ((with_reducible refine (HIn.out _).mono ?_); rintro e w4 ⟨rfl, hB4⟩; have hV4 := bstep hB4 HW.out; clear d0 d1 d2 d3 d4 d5 d6 d7 d8 d9; obtain ⟨d0, d1, d2, d3, d4, d5, d6, d7, d8, d9⟩ := HBox.out _ hV4)
                  | ((with_reducible refine (HWl.out _ hV4).mono ?_); rintro e w5 ⟨rfl, hB5⟩; have hV5 := bstep hB5 hV4; have hbx := (hV5.block _ HVs.out).trans HBX.out; have y5 := froz_of hbx; have hs5 := lt_of_heap hbx; clear d0 d1 d2 d3 d4 d5 d6 d7 d8 d9; obtain ⟨d0, d1, d2, d3, d4, d5, d6, d7, d8, d9⟩ := HBox.out _ hV5)
                  | ((with_reducible refine (HFo.out _ hV5).mono ?_); rintro e w6 ⟨A6, c6, A7, c7, rfl, hB6⟩; have hV6 := bstep hB6 hV5; have hW6 : Below V.heap.size V (w6.alloc (.cells #[.int .i64 0, .int .i64 0, .int .i64 0, .int .i64 0, .int .i64 0, .slice A6 0 c6, .slice A7 0 c7, .int .i64 0] 47)) := hV6.alloc hV6.size _; clear d0 d1 d2 d3 d4 d5 d6 d7 d8 d9; obtain ⟨d0, d1, d2, d3, d4, d5, d6, d7, d8, d9⟩ := HBox.out _ hV6; have hs6 : W.heap.size < w6.heap.size := Nat.lt_of_lt_of_le hs5 hB6.size)
                  | ((with_reducible refine (HRi.out _ hW6).mono ?_); rintro e w7 ⟨rfl, hB7⟩; have hV7 := bstep hB7 hW6))
                go_ret
                exact ⟨rfl, HB0.out.trans (hV7.mono HBV.out)⟩


set_option maxRecDepth 100000 in
theorem lifted (os : Os) (started : os.Started) (H : Type) (enc : TypeId × Value → H) :
    ReturnsInHanded {} Try.checked os 4 .any (Rows.contentStaysSpec.pre6 enc Try.prog Try.f4 Rows.contentStaysRow.domain false) (Rows.contentStaysSpec.post enc Try.prog Try.f4 false true false false) := by
  refine returnsInHanded_of_change (C := Try.checked) own started (by kernel_rfl) Try.func4
    (ChangeSpec.witness6 (enc := enc) (C := Try.checked) false ⟨#[], #[.agg #[.slice none 0 0, .slice none 0 0, .slice none 0 0, .int .i64 0, .int .i64 0, .slice none 0 0, .int .i64 0, .int .i64 0, .int .i64 0, .int .i64 0]], []⟩ 8 (by kernel_rfl) (by kernel_rfl) (by kernel_rfl) (by kernel_rfl)) ?_
  intro W base args ds gs before hval0 hW hcnd _
  have hval : ∀ (j : Nat) t v, Try.f4.params[j]? = some t → args[j]? = some v → Value.okWide Try.prog W .any base t v := hval0
  have hW' := hW
  obtain ⟨p, q, hA0, hV, rfl, hfz, hnd⟩ := hW
  have hA : DataW.TrodAll enc Try.prog W 0 (fun _ => true) true Try.f4.params.toList args.toList ds p := hA0
  rw [Try.params4] at hA hval
  obtain ⟨v0, vs0, d0, ds0, p0, q0, hargs, rfl, rfl, h0, r0⟩ := trodAll_cons hA
  obtain ⟨rfl, rfl, rfl⟩ := trodAll_nil r0
  obtain rfl : args = #[v0] := by cases args; simp_all
  obtain ⟨rfl, rfl⟩ := trodVars_none hV
  clear hA0 hval0
  have hlt0 : ∀ x ∈ p0, x.block < W.heap.size := fun x hx => hW'.lt x (by simp [hx])
  have hk0 := h0
  obtain ⟨c0, rfl, hr0, hcap0⟩ := Open.viewC (hval 0 31 v0 rfl rfl) h0
  simp only [List.append_nil] at hW'
  refine (walk W c0 hr0 hcap0).mono fun e W' ⟨he, hg⟩ => ?_
  subst he
  exact ⟨_, rfl, _, _, _, [], _, [], hW', (trodAll_cons_mk (shut_bool Try.underlying4 _) trodAll_mk0), (trodAll_cons_mk (Below.trod Open.laidOut (by kernel_rfl) (of_decide_eq_true (by kernel_rfl)) hk0 hg hlt0) trodAll_mk0), rfl, hg.frame _, fun h => by cases h⟩

theorem over : Rows.contentStaysRow.holds Try.pinned (OpenSpec.ofChange Rows.contentStaysSpec) :=
  OpenClaim.holds_of_wide 4 Try.f4 rfl rfl rfl rfl rfl rfl rfl ⟨rfl, rfl, rfl, rfl, rfl⟩ rfl rfl rfl rfl rfl (by kernel_rfl) Try.func4 (by kernel_rfl)
    (of_decide_eq_true (by kernel_rfl)) (by unfold Func.isWrapper; first | (rw [if_pos (by decide +kernel)]; kernel_rfl) | (rw [if_neg (by decide +kernel)]; exact ⟨rfl, rfl⟩))
    (fun os started H enc _ => lifted os started H enc)

/-- The given statement. -/
theorem proved : Rows.ContentStaysSaid :=
  over
#print axioms proved
end Go.Proofs.Ytekpbdjnfobobaa.contentStays
