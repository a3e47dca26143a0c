/-
  Contract of Apply of package aura.
-/
import Derived.Test.YtijobbdgiaiocaaPgd
import Derived.Deep.RegionHeld3
namespace Go.Proofs.Ytijobbdgiaiocaa.Con
open Go.RowKit Go.Maps

theorem step_min {w : World} {ops : Array Oper} {o : Oper} {a : Act} {K : Act → World → Prop} {Q : Exit → Act → World → Prop} {Ep : Prop} (hgd : o.guard = none) (x y : Operand) (u v m : Int)
    (ho : o.op = .call { callee := .builtin .min, args := #[x, y], argTypes := #[3, 3] }) (hx : a.eval x = .int .i64 u) (hy : a.eval y = .int .i64 v) (hm : mn u v = m) (h : K (a.put o.dst (.int .i64 m)) w) :
    if Region.wanted o (yielded ops a.tmps) = true then Oper.wp Try.prog o a w K Q else Ep := by
  have hw : Region.wanted o (yielded ops a.tmps) = true := by simp [Region.wanted, hgd]
  rw [if_pos hw]
  unfold Oper.wp execOp
  simp only [ho, resolve, invoke, builtin, Sem.run_bind, Sem.run_pure, Result.andThen_ok, List.map_toArray, List.map_cons, List.map_nil, hx, hy, run_min]
  rw [hm]
  exact h
/-- What Apply leaves. -/
def ApA (w : World) (M : List Ac) (E : Int) (e : Ending) (w' : World) : Prop := ∃ (A' : Option Addr) (c' : Nat), e = .returned (.tuple #[.slice A' M.length c', .int .i64 E]) ∧ Hid (OW ac w' w.heap.size (.slice A' M.length c') M) ∧ Below w.heap.size w w'
theorem apA_nil {w w' : World} {M : List Ac} {E E' : Int} (hE : E = E') (hM : M = []) (h : Below w.heap.size w w') : ApA w M E (.returned (.tuple #[.slice none 0 0, .int .i64 E'])) w' := by
  subst hM; subst hE; exact ⟨none, 0, rfl, Lib.hid (OW.nil ac w' w.heap.size), h⟩
theorem stk_fits {of : Au} (h : NAu of) (s : Int) : Fits (stkL of s) := by unfold stkL mn; split; exact held_fits _; exact h.2.2.1
theorem first_fits {of : Au} (now : Int) : Fits (firstT of now) := by unfold firstT; split; exact ⟨by omega, by omega⟩; exact held_fits _
theorem full_fits {of : Au} (s : Int) : Fits (fullL of s) := by unfold fullL; split; exact held_fits _; exact ⟨by omega, by omega⟩
theorem set_at {l : List Ac} {k : Nat} {x : Ac} (h : l[k]? = some x) (y : Ac) : (l.set k y)[k]? = some y := by
  have := (List.getElem?_eq_some_iff.1 h).1
  rw [List.getElem?_set, if_pos rfl, if_pos this]
theorem ret_ap {A' : Option Addr} {n m c' : Nat} {E E' : Int} (h : n = m) (hE : E = E') : Ending.returned (.tuple #[.slice A' n c', .int .i64 E]) = .returned (.tuple #[.slice A' m c', .int .i64 E']) := by rw [h, hE]

set_option maxRecDepth 20000 in
set_option maxHeartbeats 4000000 in
theorem apply_none {w : World} {B : Nat} {c : Cn} {A : Option Addr} {l : List Ac} {n cp : Nat} (id src now : Int) (hA : AuC c w) (hau : ∀ a ∈ c.au, NAu a) (hn : l.length = n) (hl : (n : Int) ≤ 100000) (hr : RW ac w B A l) (hB : B ≤ w.heap.size) (hy : lkB c.au id = false) :
    Calls Try.prog 9 #[cnv c, .slice A n cp, .int .i64 id, .int .i64 src, .int .i64 now] w (ApA w (apL c.au l id src now) (apE c.au l id src)) := by
  subst hn
  have hb := below_box w (oCn c)
  obtain ⟨a, ha⟩ : ∃ a, lkA c.au id = a := ⟨_, rfl⟩
  have HNa := Lib.hid (lk_nau hau id)
  have HC := Lib.hid (hA _ hb id)
  rw [ha] at HNa HC
  rw [hy] at HC
  have HX := Lib.hid hb; have HR := Lib.hid hr; have HB := Lib.hid hB; have HAE := Lib.hid ha; have HY := Lib.hid hy
  clear hA hau hr hB hb ha hy
  go_enter Try.func9, Try.ntmps9
  go_wp2_with (first | ((with_reducible refine HC.out.mono ?_); rintro e w1 ⟨rfl, hB1⟩; have hV1 : Below w.heap.size w w1 := HX.out.trans (hB1.mono HX.out.size); have hz1 := hV1.size))
  go_ret2
  exact apA_nil (ap_none (src := src) (now := now) HY.out).1 (ap_none (l := l) HY.out).2 (by go_grown)

set_option maxRecDepth 20000 in
set_option maxHeartbeats 4000000 in
theorem apply_full {w : World} {B : Nat} {c : Cn} {A : Option Addr} {l : List Ac} {n cp : Nat} (id src now : Int) (hA : AuC c w) (hau : ∀ a ∈ c.au, NAu a) (hn : l.length = n) (hl : (n : Int) ≤ 100000) (hr : RW ac w B A l) (hB : B ≤ w.heap.size) (hy : lkB c.au id = true) (hp : plI l id src = -1) (h16 : 16 ≤ l.length) :
    Calls Try.prog 9 #[cnv c, .slice A n cp, .int .i64 id, .int .i64 src, .int .i64 now] w (ApA w (apL c.au l id src now) (apE c.au l id src)) := by
  subst hn
  have hb := below_box w (oCn c)
  obtain ⟨a, ha⟩ : ∃ a, lkA c.au id = a := ⟨_, rfl⟩
  have HNa := Lib.hid (lk_nau hau id)
  have HC := Lib.hid (hA _ hb id)
  rw [ha] at HNa HC
  rw [hy] at HC
  have HX := Lib.hid hb; have HR := Lib.hid hr; have HB := Lib.hid hB; have HAE := Lib.hid ha; have HY := Lib.hid hy
  have HPI := Lib.hid hp; have H16 := Lib.hid h16
  have h16' : (16 : Int) ≤ l.length := by omega
  clear hp h16
  clear hA hau hr hB hb ha hy
  go_enter Try.func9, Try.ntmps9
  go_wp2_with (first
    | ((with_reducible refine HC.out.mono ?_); rintro e w1 ⟨rfl, hB1⟩; have hV1 : Below w.heap.size w w1 := HX.out.trans (hB1.mono HX.out.size); have hz1 := hV1.size; have hV2 : Below w.heap.size w (w1.alloc (oAu a)) := hV1.alloc hz1 _; have HPl := Lib.hid (place_any (w := w1.alloc (oAu a)) (c := cp) id src rfl (by omega) (HR.out.below hV2 HB.out) (Nat.le_trans HB.out hV2.size)); rw [HPI.out] at HPl; have HV2 := Lib.hid hV2; have HBA : Hid ((w1.alloc (oAu a)).heap[w1.heap.size]? = some (oAu a)) := Lib.hid (heap_alloc_new w1 (oAu a)); clear hV2 hB1)
    | ((with_reducible refine HPl.out.mono ?_); rintro e w2 ⟨rfl, hB2⟩; have hz2 := hB2.size; have HV3 : Hid (Below w.heap.size w w2) := Lib.hid (HV2.out.trans (hB2.mono HV2.out.size)); have hs2 : w1.heap.size < w2.heap.size := Nat.lt_of_lt_of_le (by simp) hz2; have HBA2 : Hid (w2.heap[w1.heap.size]? = some (oAu a)) := Lib.hid (hkeep1 hB2 (by simp) HBA.out); clear hB2))
  go_ret2
  exact apA_nil (ap_full (now := now) HY.out (by rw [HPI.out]; omega) H16.out).1 (ap_full HY.out (by rw [HPI.out]; omega) H16.out).2 HV3.out

/-- Behind an append onto a row of one's own, a box that was there before it stands. -/
theorem new_kept {w2 w1 w4 w5 : World} {v : Value} {l : List Ac} {a : Au} {o : Obj} (h : OW ac w4 w2.heap.size v l) (hS : (w4.alloc o).grownBy w5 v.ownBlock) (hA : w4.heap[w1.heap.size]? = some (oAu a)) (hs : w1.heap.size < w2.heap.size) (h4 : w1.heap.size < w4.heap.size) : w5.heap[w1.heap.size]? = some (oAu a) := by
  rw [hS.block _ (by simp; omega) (fun e => by have := (h.lt e.symm).1; omega), Below.heap_alloc _ _ _ h4]; exact hA

set_option maxRecDepth 20000 in
set_option maxHeartbeats 4000000 in
theorem apply_new {w : World} {B : Nat} {c : Cn} {A : Option Addr} {l : List Ac} {n cp : Nat} (id src now : Int) (hA : AuC c w) (hau : ∀ a ∈ c.au, NAu a) (hn : l.length = n) (hl : (n : Int) ≤ 100000) (hr : RW ac w B A l) (hB : B ≤ w.heap.size) (hno : Fits now) (hy : lkB c.au id = true) (hp : plI l id src = -1) (h16 : ¬ 16 ≤ l.length) :
    Calls Try.prog 9 #[cnv c, .slice A n cp, .int .i64 id, .int .i64 src, .int .i64 now] w (ApA w (apL c.au l id src now) (apE c.au l id src)) := by
  subst hn
  have hb := below_box w (oCn c)
  obtain ⟨a, ha⟩ : ∃ a, lkA c.au id = a := ⟨_, rfl⟩
  have HNa := Lib.hid (lk_nau hau id)
  have HC := Lib.hid (hA _ hb id)
  rw [ha] at HNa HC
  rw [hy] at HC
  have HX := Lib.hid hb; have HR := Lib.hid hr; have HB := Lib.hid hB; have HAE := Lib.hid ha; have HY := Lib.hid hy
  have hFt : Fits a.ticks := HNa.out.1
  have hF2 : Fits 1 := ⟨by omega, by omega⟩
  have HPI := Lib.hid hp; have H16 := Lib.hid h16
  have h16' : decide ((16 : Int) ≤ l.length) = false := by simp; omega
  have HLL : Hid (l.length + [(⟨id, src, 1, 0, firstT a now, 0⟩ : Ac)].length ≤ 1000000) := Lib.hid (by simp; omega)
  clear hp h16
  clear hA hau hr hB hb ha hy
  go_enter Try.func9, Try.ntmps9
  go_wp2_with (first
    | ((with_reducible refine HC.out.mono ?_); rintro e w1 ⟨rfl, hB1⟩; have hV1 : Below w.heap.size w w1 := HX.out.trans (hB1.mono HX.out.size); have hz1 := hV1.size; have hV2 : Below w.heap.size w (w1.alloc (oAu a)) := hV1.alloc hz1 _; have HPl := Lib.hid (place_any (w := w1.alloc (oAu a)) (c := cp) id src rfl (by omega) (HR.out.below hV2 HB.out) (Nat.le_trans HB.out hV2.size)); rw [HPI.out] at HPl; have HV2 := Lib.hid hV2; have HBA : Hid ((w1.alloc (oAu a)).heap[w1.heap.size]? = some (oAu a)) := Lib.hid (heap_alloc_new w1 (oAu a)); clear hV2 hB1)
    | ((with_reducible refine HPl.out.mono ?_); rintro e w2 ⟨rfl, hB2⟩; have hz2 := hB2.size; have HV3 : Hid (Below w.heap.size w w2) := Lib.hid (HV2.out.trans (hB2.mono HV2.out.size)); have hs2 : w1.heap.size < w2.heap.size := Nat.lt_of_lt_of_le (by simp) hz2; have HBA2 : Hid (w2.heap[w1.heap.size]? = some (oAu a)) := Lib.hid (hkeep1 hB2 (by simp) HBA.out); have HCp := Lib.hid (copyOf_any A cp l.length B l w2 rfl (HR.out.below HV3.out HB.out) hl); clear hB2)
    | ((with_reducible refine HCp.out.mono ?_); rintro e w3 ⟨A3, c3, rfl, HO3, hB3⟩; have hz3 := hB3.size; have HV4 : Hid (Below w.heap.size w w3) := Lib.hid (HV3.out.trans (hB3.mono HV3.out.size)); have hs3 : w1.heap.size < w3.heap.size := (by omega); have HBA3 : Hid (w3.heap[w1.heap.size]? = some (oAu a)) := Lib.hid (hkeep1 hB3 hs2 HBA2.out); have u3 := cellOf1 HBA3.out; have HFt := Lib.hid (firstTick_any a now w3 HNa.out hno); clear hB3)
    | ((with_reducible refine HFt.out.mono ?_); rintro e w4 ⟨rfl, hB4⟩; have hz4 := hB4.size; have HO4 := Lib.hid (HO3.out.of hB4); have HO5 := Lib.hid (HO4.out.of (below_box w4 (oAc ⟨id, src, 1, 0, firstT a now, 0⟩))); have HRW : Hid (RW ac (w4.alloc (oAc ⟨id, src, 1, 0, firstT a now, 0⟩)) (w4.heap.size + 1) (some ⟨w4.heap.size, 0, none⟩) [⟨id, src, 1, 0, firstT a now, 0⟩]) := Lib.hid (rw_at ac _ _ _ _ _ rfl rfl rfl); have HV5 : Hid (Below w.heap.size w w4) := Lib.hid (HV4.out.trans (hB4.mono HV4.out.size)); have HBA4 : Hid (w4.heap[w1.heap.size]? = some (oAu a)) := Lib.hid (hkeep1 hB4 hs3 HBA3.out); clear hB4)
    | (at_builtin; refine wpList_app ac rfl 32 rfl (.tmp 41) (.tmp 48) rfl w2.heap.size (w4.heap.size + 1) (.slice A3 l.length c3) l [⟨id, src, 1, 0, firstT a now, 0⟩] (some ⟨w4.heap.size, 0, none⟩) 1 1 rfl rfl rfl HO5.out HRW.out HLL.out (by simp; omega) ?_; intro A5 c5 w5 lm HLM HO6 HS6 HB6; have HQ6 := Lib.hid (new_kept HO4.out HS6.out HBA4.out hs2 (by omega)); have u5 := cellOf1 HQ6.out; have u6 := lt_blk1 HQ6.out; have HXN : Hid (lm[l.length]? = some (⟨id, src, 1, 0, firstT a now, 0⟩ : Ac)) := Lib.hid (by rw [HLM.out]; simp); obtain ⟨mb, hmb, hmb0, hmb1, hmc, hmf⟩ := HO6.out.at' HXN.out; subst hmb; have HMB := Lib.hid hmb0; have hkk : (l.length : Int) < lm.length := (by rw [HLM.out]; simp; omega); have zc := (cellsAc (o := l.length * 6) hmc).2.2.2.1; clear hmc hmb0; have HV6 : Hid (Below w.heap.size w w5) := Lib.hid ((HV5.out.alloc HV5.out.size _).grown HS6.out (by simp; omega) (fun j hj => Nat.le_trans HV3.out.size (HO4.out.lt hj).1)))
    | ((with_reducible refine (add_any _ _ _ hno hFt).mono ?_); rintro e w7 ⟨rfl, rfl⟩))
  have HM2 : Hid ((lm.set l.length (⟨id, src, 1, held (now + a.ticks), firstT a now, 0⟩ : Ac))[l.length]? = some (⟨id, src, 1, held (now + a.ticks), firstT a now, 0⟩ : Ac)) := Lib.hid (set_at HXN.out _)
  have HO7 : Hid (OW ac (w5.setCell ⟨mb, l.length * 6 + 3, none⟩ (.int .i64 (held (now + a.ticks)))) w2.heap.size (.slice (some ⟨mb, 0, none⟩) lm.length c5) (lm.set l.length (⟨id, src, 1, held (now + a.ticks), firstT a now, 0⟩ : Ac))) := Lib.hid (HO6.out.poke rfl HXN.out (j := 3) (by decide) rfl)
  have HV7 : Hid (Below w.heap.size w (w5.setCell ⟨mb, l.length * 6 + 3, none⟩ (.int .i64 (held (now + a.ticks))))) := Lib.hid (HV6.out.setCell (Nat.le_trans HV3.out.size HMB.out) _)
  have HNe : Hid (w1.heap.size ≠ mb) := Lib.hid (by have := HMB.out; omega)
  have HS6 : Hid ((w5.setCell ⟨mb, l.length * 6 + 3, none⟩ (.int .i64 (held (now + a.ticks)))).heap[w1.heap.size]? = some (oAu a)) := Lib.hid ((Below.heap_setCell w5 _ _ _ (by show w1.heap.size ≠ mb; exact HNe.out)).trans HQ6.out)
  generalize (w5.setCell ⟨mb, l.length * 6 + 3, none⟩ (.int .i64 (held (now + a.ticks)))) = w6 at HO7 HV7 HS6 ⊢
  have HD : Hid (∀ V, V = w6.drew → OW ac V w2.heap.size (.slice (some ⟨mb, 0, none⟩) lm.length c5) (lm.set l.length (⟨id, src, 1, held (now + a.ticks), firstT a now, 0⟩ : Ac)) ∧ Below w.heap.size w V ∧ V.heap[w1.heap.size]? = some (oAu a)) := Lib.hid (fun V hV => by subst hV; exact ⟨HO7.out, HV7.out.drew, HS6.out⟩)
  clear HO7 HV7 HS6
  refine wp_region_noPanic ?_
  refine wp_region_held_drew (S := fun w' => w'.heap[w1.heap.size]? = some (oAu a)) (by kernel_rfl) (HD.out _ rfl).2.2 (fun _ => ?_)
  generalize hv0 : w6.drew = v0
  obtain ⟨ho7, hv7, hS0⟩ := HD.out v0 hv0.symm
  have HO7 := Lib.hid ho7; have HV7 := Lib.hid hv7; have HLs := Lib.hid (lt_blk1 hS0)
  clear ho7 hv7 hv0 HD
  obtain ⟨mb7, hmb7, _, hmbl7, hmc7, hmf7⟩ := HO7.out.at' HM2.out
  injection hmb7 with e7; injection e7 with e7; subst e7
  have HLd := Lib.hid (cellsAc (o := l.length * 6) hmc7).2.2.1
  clear hmc7 hmf7
  refine wpAnyH_take (i := 0) (oi := ⟨some 71, Op.move (Operand.tmp 15), 32, _, _, none⟩) (v := ?vb0) rfl (by kernel_rfl) (by kernel_rfl) (by kernel_rfl) (fun _ _ _ h => h) (Or.inl ⟨by rfl, ?hb0⟩) hS0 ?rb0
  case hb0 => (intro wz hSw; go_simp <;> with_reducible rfl)
  (try simp only [Act.put, List.setIfInBounds_toArray, List.set_cons_zero, List.set_cons_succ])
  refine wpAnyH_take (i := 1) (oi := ⟨some 72, Op.move (Operand.tmp 14), 3, _, _, none⟩) (v := ?vb1) rfl (by kernel_rfl) (by kernel_rfl) (by kernel_rfl) (fun _ _ _ h => h) (Or.inl ⟨by rfl, ?hb1⟩) hS0 ?rb1
  case hb1 => (intro wz hSw; go_simp <;> with_reducible rfl)
  (try simp only [Act.put, List.setIfInBounds_toArray, List.set_cons_zero, List.set_cons_succ])
  refine wpAnyH_take (i := 2) (oi := ⟨some 73, Op.load 54 (Operand.tmp 12), 54, _, _, none⟩) (v := ?vb2) rfl (by kernel_rfl) (by kernel_rfl) (by kernel_rfl) (fun _ _ _ h => h) (Or.inl ⟨by rfl, ?hb2⟩) hS0 ?rb2
  case hb2 => (intro wz hSw; have u9 := cellOf1 hSw; go_simp <;> with_reducible rfl)
  (try simp only [Act.put, List.setIfInBounds_toArray, List.set_cons_zero, List.set_cons_succ])
  refine wpAnyH_take (i := 3) (oi := ⟨some 74, Op.move (Operand.tmp 15), 32, _, _, none⟩) (v := ?vb3) rfl (by kernel_rfl) (by kernel_rfl) (by kernel_rfl) (fun _ _ _ h => h) (Or.inl ⟨by rfl, ?hb3⟩) hS0 ?rb3
  case hb3 => (intro wz hSw; go_simp <;> with_reducible rfl)
  (try simp only [Act.put, List.setIfInBounds_toArray, List.set_cons_zero, List.set_cons_succ])
  refine wpAnyH_take (i := 4) (oi := ⟨some 75, Op.move (Operand.tmp 14), 3, _, _, none⟩) (v := ?vb4) rfl (by kernel_rfl) (by kernel_rfl) (by kernel_rfl) (fun _ _ _ h => h) (Or.inl ⟨by rfl, ?hb4⟩) hS0 ?rb4
  case hb4 => (intro wz hSw; go_simp <;> with_reducible rfl)
  (try simp only [Act.put, List.setIfInBounds_toArray, List.set_cons_zero, List.set_cons_succ])
  refine wpAnyH_take (i := 5) (oi := ⟨some 76, Op.indexAddr 32 (Operand.tmp 74) (Operand.tmp 75), 0, _, _, none⟩) (v := ?vb5) rfl (by kernel_rfl) (by kernel_rfl) (by kernel_rfl) (fun _ _ _ h => h) (Or.inl ⟨by rfl, ?hb5⟩) hS0 ?rb5
  case hb5 => (intro wz hSw; go_simp <;> with_reducible rfl)
  (try simp only [Act.put, List.setIfInBounds_toArray, List.set_cons_zero, List.set_cons_succ])
  refine wpAnyH_take (i := 6) (oi := ⟨some 77, Op.fieldAddr 42 (Operand.tmp 76) 2, 0, _, _, none⟩) (v := ?vb6) rfl (by kernel_rfl) (by kernel_rfl) (by kernel_rfl) (fun _ _ _ h => h) (Or.inl ⟨by rfl, ?hb6⟩) hS0 ?rb6
  case hb6 => (intro wz hSw; go_simp <;> with_reducible rfl)
  (try simp only [Act.put, List.setIfInBounds_toArray, List.set_cons_zero, List.set_cons_succ])
  refine wpAnyH_ready (rs := [7]) (by kernel_rfl) (by simp) ?_
  refine AllReadyH.cons (o := ⟨some 78, Op.load 3 (Operand.tmp 77), 3, _, _, none⟩) rfl (fun K hK => ?_) AllReadyH.nil
  have zc := HLd.out
  go_simp
  refine hK.out _ _ hS0 (fun _ => ?_)
  clear hK K
  (try simp only [Act.put, List.setIfInBounds_toArray, List.set_cons_zero, List.set_cons_succ])
  refine wpAnyH_ready (rs := [8]) (by kernel_rfl) (by simp) ?_
  refine AllReadyH.cons (o := ⟨some 79, Op.call { callee := Callee.value (Operand.func 32), args := #[Operand.tmp 73, Operand.tmp 78], argTypes := #[54, 3] }, 3, _, _, none⟩) rfl (fun K hK => ?_) AllReadyH.nil
  go_simp
  ((with_reducible refine (fullLeft_any a (1) v0 HNa.out hF2).mono ?_); rintro e v1 ⟨rfl, hBv⟩; have hS1 := hkeep1 hBv HLs.out hS0; have HO8 := Lib.hid (HO7.out.of hBv); have HV8 : Hid (Below w.heap.size w v1) := Lib.hid (HV7.out.trans (hBv.mono HV7.out.size)); obtain ⟨mb8, hmb8, _, hmbl8, hmc8, hmf8⟩ := HO8.out.at' HM2.out; injection hmb8 with e8; injection e8 with e8; subst e8; have HLd8 := Lib.hid (cellsAc (o := l.length * 6) hmc8).2.2.2.2.2; have HFz8 := Lib.hid hmf8; have hS8 : (v1.setCell ⟨mb, l.length * 6 + 5, none⟩ (.int .i64 (fullL a (1)))).heap[w1.heap.size]? = some (oAu a) := (Below.heap_setCell v1 _ _ _ (by show w1.heap.size ≠ mb; exact HNe.out)).trans hS1; clear hmc8 hmf8)
  refine hK.out _ _ hS1 (fun _ => ?_)
  clear hK K
  (try simp only [Act.put, List.setIfInBounds_toArray, List.set_cons_zero, List.set_cons_succ])
  refine wpAnyH_take (i := 9) (oi := ⟨some 80, Op.indexAddr 32 (Operand.tmp 71) (Operand.tmp 72), 0, _, _, none⟩) (v := ?vb9) rfl (by kernel_rfl) (by kernel_rfl) (by kernel_rfl) (fun _ _ _ h => h) (Or.inl ⟨by rfl, ?hb9⟩) hS1 ?rb9
  case hb9 => (intro wz hSw; go_simp <;> with_reducible rfl)
  (try simp only [Act.put, List.setIfInBounds_toArray, List.set_cons_zero, List.set_cons_succ])
  refine wpAnyH_take (i := 10) (oi := ⟨some 81, Op.fieldAddr 42 (Operand.tmp 80) 5, 0, _, _, none⟩) (v := ?vb10) rfl (by kernel_rfl) (by kernel_rfl) (by kernel_rfl) (fun _ _ _ h => h) (Or.inl ⟨by rfl, ?hb10⟩) hS1 ?rb10
  case hb10 => (intro wz hSw; go_simp <;> with_reducible rfl)
  (try simp only [Act.put, List.setIfInBounds_toArray, List.set_cons_zero, List.set_cons_succ])
  refine wpAnyH_ready (rs := [11]) (by kernel_rfl) (by simp) ?_
  refine AllReadyH.cons (o := ⟨none, Op.store 3 (Operand.tmp 81) (Operand.tmp 79), 0, _, _, none⟩) rfl (fun K hK => ?_) AllReadyH.nil
  have zc := HLd8.out; have zf := HFz8.out
  go_simp
  refine hK.out _ _ hS8 (fun _ => ?_)
  clear hK K
  (try simp only [Act.put, List.setIfInBounds_toArray, List.set_cons_zero, List.set_cons_succ])
  refine wpAnyH_done (by kernel_rfl) ?_ _
  refine NoPanic.normal ?_
  clear hS1 hS0 hS8 hBv
  have HO9 : Hid (OW ac (v1.setCell ⟨mb, l.length * 6 + 5, none⟩ (.int .i64 (fullL a (1)))) w2.heap.size (.slice (some ⟨mb, 0, none⟩) lm.length c5) ((lm.set l.length (⟨id, src, 1, held (now + a.ticks), firstT a now, 0⟩ : Ac)).set l.length (⟨id, src, 1, held (now + a.ticks), firstT a now, fullL a (1)⟩ : Ac))) := Lib.hid (HO8.out.poke rfl HM2.out (j := 5) (by decide) rfl)
  go_wp2
  go_ret2
  have hfin : (lm.set l.length (⟨id, src, 1, held (now + a.ticks), firstT a now, 0⟩ : Ac)).set l.length (⟨id, src, 1, held (now + a.ticks), firstT a now, fullL a (1)⟩ : Ac) = l ++ [newL a id src now] := by rw [HLM.out]; simp [newL]
  have HO10 := HO9.out; rw [hfin] at HO10
  refine ⟨some ⟨mb, 0, none⟩, c5, ret_ap ?_ ?_, Lib.hid ?_, ?_⟩
  · rw [show apL c.au l id src now = l ++ [newL a id src now] by rw [(ap_new HY.out (by rw [HPI.out]; omega) H16.out).2, HAE.out]]; rw [HLM.out]; simp
  · rw [(ap_new (now := now) HY.out (by rw [HPI.out]; omega) H16.out).1]
  · rw [show apL c.au l id src now = l ++ [newL a id src now] by rw [(ap_new HY.out (by rw [HPI.out]; omega) H16.out).2, HAE.out]]; have h9 := HO10.mono HV3.out.size; simpa [HLM.out] using h9
  · exact HV8.out.setCell (Nat.le_trans HV3.out.size HMB.out) _

set_option maxRecDepth 20000 in
set_option maxHeartbeats 4000000 in
theorem apply_again {w : World} {B : Nat} {c : Cn} {A : Option Addr} {l : List Ac} {n cp : Nat} (id src now : Int) (hA : AuC c w) (hau : ∀ a ∈ c.au, NAu a) (hac : ∀ a ∈ l, NAc a) (hn : l.length = n) (hl : (n : Int) ≤ 100000) (hr : RW ac w B A l) (hB : B ≤ w.heap.size) (hno : Fits now) (hy : lkB c.au id = true) {k : Nat} {x : Ac} (hp : plI l id src = (k : Int)) (hx : l[k]? = some x) :
    Calls Try.prog 9 #[cnv c, .slice A n cp, .int .i64 id, .int .i64 src, .int .i64 now] w (ApA w (apL c.au l id src now) (apE c.au l id src)) := by
  subst hn
  have hb := below_box w (oCn c)
  obtain ⟨a, ha⟩ : ∃ a, lkA c.au id = a := ⟨_, rfl⟩
  have HNa := Lib.hid (lk_nau hau id)
  have HC := Lib.hid (hA _ hb id)
  rw [ha] at HNa HC
  rw [hy] at HC
  have HX := Lib.hid hb; have HR := Lib.hid hr; have HB := Lib.hid hB; have HAE := Lib.hid ha; have HY := Lib.hid hy
  have hFt : Fits a.ticks := HNa.out.1
  have hF1 : Fits x.stacks := (hac x (List.mem_of_getElem? hx)).1
  have hF2 : Fits (stkL a x.stacks) := stk_fits HNa.out _
  have fits1 : Fits 1 := ⟨by omega, by omega⟩
  have HPI := Lib.hid hp; have HXk := Lib.hid hx
  have hk0 : decide ((k : Int) < 0) = false := by simp
  have hklt : (k : Int) < l.length := by have := (List.getElem?_eq_some_iff.1 hx).1; omega
  have HMn : Hid (mn (held (x.stacks + 1)) a.stacks = stkL a x.stacks) := Lib.hid rfl
  clear hp hx hac
  clear hA hau hr hB hb ha hy
  go_enter Try.func9, Try.ntmps9
  go_wp2_with (first
    | ((with_reducible refine HC.out.mono ?_); rintro e w1 ⟨rfl, hB1⟩; have hV1 : Below w.heap.size w w1 := HX.out.trans (hB1.mono HX.out.size); have hz1 := hV1.size; have hV2 : Below w.heap.size w (w1.alloc (oAu a)) := hV1.alloc hz1 _; have HPl := Lib.hid (place_any (w := w1.alloc (oAu a)) (c := cp) id src rfl (by omega) (HR.out.below hV2 HB.out) (Nat.le_trans HB.out hV2.size)); rw [HPI.out] at HPl; have HV2 := Lib.hid hV2; have HBA : Hid ((w1.alloc (oAu a)).heap[w1.heap.size]? = some (oAu a)) := Lib.hid (heap_alloc_new w1 (oAu a)); clear hV2 hB1)
    | ((with_reducible refine HPl.out.mono ?_); rintro e w2 ⟨rfl, hB2⟩; have hz2 := hB2.size; have HV3 : Hid (Below w.heap.size w w2) := Lib.hid (HV2.out.trans (hB2.mono HV2.out.size)); have hs2 : w1.heap.size < w2.heap.size := Nat.lt_of_lt_of_le (by simp) hz2; have HBA2 : Hid (w2.heap[w1.heap.size]? = some (oAu a)) := Lib.hid (hkeep1 hB2 (by simp) HBA.out); have HCp := Lib.hid (copyOf_any A cp l.length B l w2 rfl (HR.out.below HV3.out HB.out) hl); clear hB2)
    | ((with_reducible refine HCp.out.mono ?_); rintro e w3 ⟨A3, c3, rfl, HO3, hB3⟩; have hz3 := hB3.size; have HV4 : Hid (Below w.heap.size w w3) := Lib.hid (HV3.out.trans (hB3.mono HV3.out.size)); have hs3 : w1.heap.size < w3.heap.size := (by omega); have HBA3 : Hid (w3.heap[w1.heap.size]? = some (oAu a)) := Lib.hid (hkeep1 hB3 hs2 HBA2.out); have u3 := cellOf1 HBA3.out; clear hB3))
  obtain ⟨mb, hmb, hmb0, hmb1, hmc, hmf⟩ := HO3.out.at' HXk.out
  subst hmb
  have HMB := Lib.hid hmb0
  have HNe0 : Hid (w1.heap.size ≠ mb) := Lib.hid (by omega)
  have HLd := Lib.hid (cellsAc (o := k * 6) hmc).2.2.1
  have HFz := Lib.hid hmf
  clear hmc hmf u3 hmb0
  have HD0 : Hid (∀ V, V = w3.drew → OW ac V w2.heap.size (.slice (some ⟨mb, 0, none⟩) l.length c3) l ∧ Below w.heap.size w V ∧ V.heap[w1.heap.size]? = some (oAu a) ∧ V.cell? ⟨mb, k * 6 + 2, none⟩ = some (.int .i64 x.stacks) ∧ (∀ o, V.frozen? ⟨mb, o, none⟩ = false)) := Lib.hid (fun V hV => by subst hV; exact ⟨HO3.out, HV4.out.drew, HBA3.out, HLd.out, HFz.out⟩)
  clear HLd HFz
  refine wp_region_noPanic ?_
  refine wp_region_held_drew (S := fun w' => w'.heap[w1.heap.size]? = some (oAu a)) (by kernel_rfl) (HD0.out _ rfl).2.2.1 (fun _ => ?_)
  generalize hv0 : w3.drew = v0
  obtain ⟨ho5, hv5, hS0, hld, hfz⟩ := HD0.out v0 hv0.symm
  have HO5 := Lib.hid ho5; have HV5 := Lib.hid hv5; have HLd := Lib.hid hld; have HFz := Lib.hid hfz; have hmbl := HO5.out.lt (k := mb) rfl
  clear ho5 hv5 hld hfz hv0 HD0
  refine wpAnyH_take (i := 0) (oi := ⟨some 50, Op.move (Operand.tmp 15), 32, _, _, none⟩) (v := ?va0) rfl (by kernel_rfl) (by kernel_rfl) (by kernel_rfl) (fun _ _ _ h => h) (Or.inl ⟨by rfl, ?ha0⟩) hS0 ?ra0
  case ha0 => (intro wz hSw; go_simp <;> with_reducible rfl)
  (try simp only [Act.put, List.setIfInBounds_toArray, List.set_cons_zero, List.set_cons_succ])
  refine wpAnyH_take (i := 1) (oi := ⟨some 51, Op.move (Operand.tmp 14), 3, _, _, none⟩) (v := ?va1) rfl (by kernel_rfl) (by kernel_rfl) (by kernel_rfl) (fun _ _ _ h => h) (Or.inl ⟨by rfl, ?ha1⟩) hS0 ?ra1
  case ha1 => (intro wz hSw; go_simp <;> with_reducible rfl)
  (try simp only [Act.put, List.setIfInBounds_toArray, List.set_cons_zero, List.set_cons_succ])
  refine wpAnyH_take (i := 2) (oi := ⟨some 52, Op.move (Operand.tmp 15), 32, _, _, none⟩) (v := ?va2) rfl (by kernel_rfl) (by kernel_rfl) (by kernel_rfl) (fun _ _ _ h => h) (Or.inl ⟨by rfl, ?ha2⟩) hS0 ?ra2
  case ha2 => (intro wz hSw; go_simp <;> with_reducible rfl)
  (try simp only [Act.put, List.setIfInBounds_toArray, List.set_cons_zero, List.set_cons_succ])
  refine wpAnyH_take (i := 3) (oi := ⟨some 53, Op.move (Operand.tmp 14), 3, _, _, none⟩) (v := ?va3) rfl (by kernel_rfl) (by kernel_rfl) (by kernel_rfl) (fun _ _ _ h => h) (Or.inl ⟨by rfl, ?ha3⟩) hS0 ?ra3
  case ha3 => (intro wz hSw; go_simp <;> with_reducible rfl)
  (try simp only [Act.put, List.setIfInBounds_toArray, List.set_cons_zero, List.set_cons_succ])
  refine wpAnyH_take (i := 4) (oi := ⟨some 54, Op.indexAddr 32 (Operand.tmp 52) (Operand.tmp 53), 0, _, _, none⟩) (v := ?va4) rfl (by kernel_rfl) (by kernel_rfl) (by kernel_rfl) (fun _ _ _ h => h) (Or.inl ⟨by rfl, ?ha4⟩) hS0 ?ra4
  case ha4 => (intro wz hSw; go_simp <;> with_reducible rfl)
  (try simp only [Act.put, List.setIfInBounds_toArray, List.set_cons_zero, List.set_cons_succ])
  refine wpAnyH_take (i := 5) (oi := ⟨some 55, Op.fieldAddr 42 (Operand.tmp 54) 2, 0, _, _, none⟩) (v := ?va5) rfl (by kernel_rfl) (by kernel_rfl) (by kernel_rfl) (fun _ _ _ h => h) (Or.inl ⟨by rfl, ?ha5⟩) hS0 ?ra5
  case ha5 => (intro wz hSw; go_simp <;> with_reducible rfl)
  (try simp only [Act.put, List.setIfInBounds_toArray, List.set_cons_zero, List.set_cons_succ])
  refine wpAnyH_take (i := 8) (oi := ⟨some 58, Op.fieldAddr 54 (Operand.tmp 12) 4, 0, _, _, none⟩) (v := ?va8) rfl (by kernel_rfl) (by kernel_rfl) (by kernel_rfl) (fun _ _ _ h => h) (Or.inl ⟨by rfl, ?ha8⟩) hS0 ?ra8
  case ha8 => (intro wz hSw; go_simp <;> with_reducible rfl)
  (try simp only [Act.put, List.setIfInBounds_toArray, List.set_cons_zero, List.set_cons_succ])
  refine wpAnyH_take (i := 9) (oi := ⟨some 59, Op.load 3 (Operand.tmp 58), 3, _, _, none⟩) (v := ?va9) rfl (by kernel_rfl) (by kernel_rfl) (by kernel_rfl) (fun _ _ _ h => h) (Or.inl ⟨by rfl, ?ha9⟩) hS0 ?ra9
  case ha9 => (intro wz hSw; have u9 := cellOf1 hSw; go_simp <;> with_reducible rfl)
  (try simp only [Act.put, List.setIfInBounds_toArray, List.set_cons_zero, List.set_cons_succ])
  refine wpAnyH_ready (rs := [6]) (by kernel_rfl) (by simp) ?_
  refine AllReadyH.cons (o := ⟨some 56, Op.load 3 (Operand.tmp 55), 3, _, _, none⟩) rfl (fun K hK => ?_) AllReadyH.nil
  have zc := HLd.out
  go_simp
  refine hK.out _ _ hS0 (fun _ => ?_)
  clear hK K
  (try simp only [Act.put, List.setIfInBounds_toArray, List.set_cons_zero, List.set_cons_succ])
  refine wpAnyH_ready (rs := [7]) (by kernel_rfl) (by simp) ?_
  refine AllReadyH.cons (o := ⟨some 57, Op.call { callee := Callee.value (Operand.func 31), args := #[Operand.tmp 56, Operand.const (Value.int IntKind.i64 1)], argTypes := #[3, 3] }, 3, _, _, none⟩) rfl (fun K hK => ?_) AllReadyH.nil
  go_simp
  ((with_reducible refine (add_any _ _ _ hF1 fits1).mono ?_); rintro e v1 ⟨rfl, rfl⟩)
  refine hK.out _ _ hS0 (fun _ => ?_)
  clear hK K
  (try simp only [Act.put, List.setIfInBounds_toArray, List.set_cons_zero, List.set_cons_succ])
  refine wpAnyH_ready (rs := [10]) (by kernel_rfl) (by simp) ?_
  refine AllReadyH.cons (o := ⟨some 60, Op.call { callee := Callee.builtin Builtin.min, args := #[Operand.tmp 57, Operand.tmp 59], argTypes := #[3, 3] }, 3, _, _, none⟩) rfl (fun K hK => ?_) AllReadyH.nil
  refine step_min rfl (.tmp 57) (.tmp 59) _ _ _ rfl (by simp [Act.eval]) (by simp [Act.eval]) HMn.out ?_
  refine hK.out _ _ hS0 (fun _ => ?_)
  clear hK K
  (try simp only [Act.put, List.setIfInBounds_toArray, List.set_cons_zero, List.set_cons_succ])
  refine wpAnyH_take (i := 11) (oi := ⟨some 61, Op.indexAddr 32 (Operand.tmp 50) (Operand.tmp 51), 0, _, _, none⟩) (v := ?va11) rfl (by kernel_rfl) (by kernel_rfl) (by kernel_rfl) (fun _ _ _ h => h) (Or.inl ⟨by rfl, ?ha11⟩) hS0 ?ra11
  case ha11 => (intro wz hSw; go_simp <;> with_reducible rfl)
  (try simp only [Act.put, List.setIfInBounds_toArray, List.set_cons_zero, List.set_cons_succ])
  refine wpAnyH_take (i := 12) (oi := ⟨some 62, Op.fieldAddr 42 (Operand.tmp 61) 2, 0, _, _, none⟩) (v := ?va12) rfl (by kernel_rfl) (by kernel_rfl) (by kernel_rfl) (fun _ _ _ h => h) (Or.inl ⟨by rfl, ?ha12⟩) hS0 ?ra12
  case ha12 => (intro wz hSw; go_simp <;> with_reducible rfl)
  (try simp only [Act.put, List.setIfInBounds_toArray, List.set_cons_zero, List.set_cons_succ])
  refine wpAnyH_ready (rs := [13]) (by kernel_rfl) (by simp) ?_
  refine AllReadyH.cons (o := ⟨none, Op.store 3 (Operand.tmp 62) (Operand.tmp 60), 0, _, _, none⟩) rfl (fun K hK => ?_) AllReadyH.nil
  have zc := HLd.out; have zf := HFz.out
  go_simp
  have hS1 : (v0.setCell ⟨mb, k * 6 + 2, none⟩ (.int .i64 (stkL a x.stacks))).heap[w1.heap.size]? = some (oAu a) := (Below.heap_setCell v0 _ _ _ (by show w1.heap.size ≠ mb; exact HNe0.out)).trans hS0
  refine hK.out _ _ hS1 (fun _ => ?_)
  clear hK K
  (try simp only [Act.put, List.setIfInBounds_toArray, List.set_cons_zero, List.set_cons_succ])
  refine wpAnyH_done (by kernel_rfl) ?_ _
  refine NoPanic.normal ?_
  have HQ6 := Lib.hid hS1
  clear hS1 hS0
  have HO6 : Hid (OW ac (v0.setCell ⟨mb, k * 6 + 2, none⟩ (.int .i64 (stkL a x.stacks))) w2.heap.size (.slice (some ⟨mb, 0, none⟩) l.length c3) (l.set k (⟨x.aura, x.source, stkL a x.stacks, x.untl, x.nxt, x.left⟩ : Ac))) := Lib.hid (HO5.out.poke rfl HXk.out (j := 2) (by decide) rfl)
  have HXN : Hid ((l.set k (⟨x.aura, x.source, stkL a x.stacks, x.untl, x.nxt, x.left⟩ : Ac))[k]? = some (⟨x.aura, x.source, stkL a x.stacks, x.untl, x.nxt, x.left⟩ : Ac)) := Lib.hid (set_at HXk.out _)
  have HV6 : Hid (Below w.heap.size w (v0.setCell ⟨mb, k * 6 + 2, none⟩ (.int .i64 (stkL a x.stacks)))) := Lib.hid (HV5.out.setCell (Nat.le_trans HV3.out.size HMB.out) _)
  clear HLd HFz HNe0
  generalize (v0.setCell ⟨mb, k * 6 + 2, none⟩ (.int .i64 (stkL a x.stacks))) = w5 at HO6 HV6 HQ6 ⊢
  obtain ⟨mb6, hmb6, _, hmbl6, hmc6, hmf6⟩ := HO6.out.at' HXN.out
  injection hmb6 with e6; injection e6 with e6; subst e6
  have zc := (cellsAc (o := k * 6) hmc6).2.2.2.1
  have u5 := cellOf1 HQ6.out; have u6 := lt_blk1 HQ6.out
  clear hmc6
  go_wp2_with (first | ((with_reducible refine (add_any _ _ _ hno hFt).mono ?_); rintro e w7 ⟨rfl, rfl⟩))
  have HM2 : Hid (((l.set k (⟨x.aura, x.source, stkL a x.stacks, x.untl, x.nxt, x.left⟩ : Ac)).set k (⟨x.aura, x.source, stkL a x.stacks, held (now + a.ticks), x.nxt, x.left⟩ : Ac))[k]? = some (⟨x.aura, x.source, stkL a x.stacks, held (now + a.ticks), x.nxt, x.left⟩ : Ac)) := Lib.hid (set_at HXN.out _)
  have HO7 : Hid (OW ac (w5.setCell ⟨mb, k * 6 + 3, none⟩ (.int .i64 (held (now + a.ticks)))) w2.heap.size (.slice (some ⟨mb, 0, none⟩) l.length c3) ((l.set k (⟨x.aura, x.source, stkL a x.stacks, x.untl, x.nxt, x.left⟩ : Ac)).set k (⟨x.aura, x.source, stkL a x.stacks, held (now + a.ticks), x.nxt, x.left⟩ : Ac))) := Lib.hid (HO6.out.poke rfl HXN.out (j := 3) (by decide) rfl)
  have HV7 : Hid (Below w.heap.size w (w5.setCell ⟨mb, k * 6 + 3, none⟩ (.int .i64 (held (now + a.ticks))))) := Lib.hid (HV6.out.setCell (Nat.le_trans HV3.out.size HMB.out) _)
  have HNe : Hid (w1.heap.size ≠ mb) := Lib.hid (by have := HMB.out; omega)
  have HS6 : Hid ((w5.setCell ⟨mb, k * 6 + 3, none⟩ (.int .i64 (held (now + a.ticks)))).heap[w1.heap.size]? = some (oAu a)) := Lib.hid ((Below.heap_setCell w5 _ _ _ (by show w1.heap.size ≠ mb; exact HNe.out)).trans HQ6.out)
  generalize (w5.setCell ⟨mb, k * 6 + 3, none⟩ (.int .i64 (held (now + a.ticks)))) = w6 at HO7 HV7 HS6 ⊢
  have HD : Hid (∀ V, V = w6.drew → OW ac V w2.heap.size (.slice (some ⟨mb, 0, none⟩) l.length c3) ((l.set k (⟨x.aura, x.source, stkL a x.stacks, x.untl, x.nxt, x.left⟩ : Ac)).set k (⟨x.aura, x.source, stkL a x.stacks, held (now + a.ticks), x.nxt, x.left⟩ : Ac)) ∧ Below w.heap.size w V ∧ V.heap[w1.heap.size]? = some (oAu a)) := Lib.hid (fun V hV => by subst hV; exact ⟨HO7.out, HV7.out.drew, HS6.out⟩)
  clear HO7 HV7 HS6
  refine wp_region_noPanic ?_
  refine wp_region_held_drew (S := fun w' => w'.heap[w1.heap.size]? = some (oAu a)) (by kernel_rfl) (HD.out _ rfl).2.2 (fun _ => ?_)
  generalize hv0 : w6.drew = v0
  obtain ⟨ho7, hv7, hS0⟩ := HD.out v0 hv0.symm
  have HO7 := Lib.hid ho7; have HV7 := Lib.hid hv7; have HLs := Lib.hid (lt_blk1 hS0)
  clear ho7 hv7 hv0 HD
  obtain ⟨mb7, hmb7, _, hmbl7, hmc7, hmf7⟩ := HO7.out.at' HM2.out
  injection hmb7 with e7; injection e7 with e7; subst e7
  have HLd := Lib.hid (cellsAc (o := k * 6) hmc7).2.2.1
  clear hmc7 hmf7
  refine wpAnyH_take (i := 0) (oi := ⟨some 71, Op.move (Operand.tmp 15), 32, _, _, none⟩) (v := ?vb0) rfl (by kernel_rfl) (by kernel_rfl) (by kernel_rfl) (fun _ _ _ h => h) (Or.inl ⟨by rfl, ?hb0⟩) hS0 ?rb0
  case hb0 => (intro wz hSw; go_simp <;> with_reducible rfl)
  (try simp only [Act.put, List.setIfInBounds_toArray, List.set_cons_zero, List.set_cons_succ])
  refine wpAnyH_take (i := 1) (oi := ⟨some 72, Op.move (Operand.tmp 14), 3, _, _, none⟩) (v := ?vb1) rfl (by kernel_rfl) (by kernel_rfl) (by kernel_rfl) (fun _ _ _ h => h) (Or.inl ⟨by rfl, ?hb1⟩) hS0 ?rb1
  case hb1 => (intro wz hSw; go_simp <;> with_reducible rfl)
  (try simp only [Act.put, List.setIfInBounds_toArray, List.set_cons_zero, List.set_cons_succ])
  refine wpAnyH_take (i := 2) (oi := ⟨some 73, Op.load 54 (Operand.tmp 12), 54, _, _, none⟩) (v := ?vb2) rfl (by kernel_rfl) (by kernel_rfl) (by kernel_rfl) (fun _ _ _ h => h) (Or.inl ⟨by rfl, ?hb2⟩) hS0 ?rb2
  case hb2 => (intro wz hSw; have u9 := cellOf1 hSw; go_simp <;> with_reducible rfl)
  (try simp only [Act.put, List.setIfInBounds_toArray, List.set_cons_zero, List.set_cons_succ])
  refine wpAnyH_take (i := 3) (oi := ⟨some 74, Op.move (Operand.tmp 15), 32, _, _, none⟩) (v := ?vb3) rfl (by kernel_rfl) (by kernel_rfl) (by kernel_rfl) (fun _ _ _ h => h) (Or.inl ⟨by rfl, ?hb3⟩) hS0 ?rb3
  case hb3 => (intro wz hSw; go_simp <;> with_reducible rfl)
  (try simp only [Act.put, List.setIfInBounds_toArray, List.set_cons_zero, List.set_cons_succ])
  refine wpAnyH_take (i := 4) (oi := ⟨some 75, Op.move (Operand.tmp 14), 3, _, _, none⟩) (v := ?vb4) rfl (by kernel_rfl) (by kernel_rfl) (by kernel_rfl) (fun _ _ _ h => h) (Or.inl ⟨by rfl, ?hb4⟩) hS0 ?rb4
  case hb4 => (intro wz hSw; go_simp <;> with_reducible rfl)
  (try simp only [Act.put, List.setIfInBounds_toArray, List.set_cons_zero, List.set_cons_succ])
  refine wpAnyH_take (i := 5) (oi := ⟨some 76, Op.indexAddr 32 (Operand.tmp 74) (Operand.tmp 75), 0, _, _, none⟩) (v := ?vb5) rfl (by kernel_rfl) (by kernel_rfl) (by kernel_rfl) (fun _ _ _ h => h) (Or.inl ⟨by rfl, ?hb5⟩) hS0 ?rb5
  case hb5 => (intro wz hSw; go_simp <;> with_reducible rfl)
  (try simp only [Act.put, List.setIfInBounds_toArray, List.set_cons_zero, List.set_cons_succ])
  refine wpAnyH_take (i := 6) (oi := ⟨some 77, Op.fieldAddr 42 (Operand.tmp 76) 2, 0, _, _, none⟩) (v := ?vb6) rfl (by kernel_rfl) (by kernel_rfl) (by kernel_rfl) (fun _ _ _ h => h) (Or.inl ⟨by rfl, ?hb6⟩) hS0 ?rb6
  case hb6 => (intro wz hSw; go_simp <;> with_reducible rfl)
  (try simp only [Act.put, List.setIfInBounds_toArray, List.set_cons_zero, List.set_cons_succ])
  refine wpAnyH_ready (rs := [7]) (by kernel_rfl) (by simp) ?_
  refine AllReadyH.cons (o := ⟨some 78, Op.load 3 (Operand.tmp 77), 3, _, _, none⟩) rfl (fun K hK => ?_) AllReadyH.nil
  have zc := HLd.out
  go_simp
  refine hK.out _ _ hS0 (fun _ => ?_)
  clear hK K
  (try simp only [Act.put, List.setIfInBounds_toArray, List.set_cons_zero, List.set_cons_succ])
  refine wpAnyH_ready (rs := [8]) (by kernel_rfl) (by simp) ?_
  refine AllReadyH.cons (o := ⟨some 79, Op.call { callee := Callee.value (Operand.func 32), args := #[Operand.tmp 73, Operand.tmp 78], argTypes := #[54, 3] }, 3, _, _, none⟩) rfl (fun K hK => ?_) AllReadyH.nil
  go_simp
  ((with_reducible refine (fullLeft_any a (stkL a x.stacks) v0 HNa.out hF2).mono ?_); rintro e v1 ⟨rfl, hBv⟩; have hS1 := hkeep1 hBv HLs.out hS0; have HO8 := Lib.hid (HO7.out.of hBv); have HV8 : Hid (Below w.heap.size w v1) := Lib.hid (HV7.out.trans (hBv.mono HV7.out.size)); obtain ⟨mb8, hmb8, _, hmbl8, hmc8, hmf8⟩ := HO8.out.at' HM2.out; injection hmb8 with e8; injection e8 with e8; subst e8; have HLd8 := Lib.hid (cellsAc (o := k * 6) hmc8).2.2.2.2.2; have HFz8 := Lib.hid hmf8; have hS8 : (v1.setCell ⟨mb, k * 6 + 5, none⟩ (.int .i64 (fullL a (stkL a x.stacks)))).heap[w1.heap.size]? = some (oAu a) := (Below.heap_setCell v1 _ _ _ (by show w1.heap.size ≠ mb; exact HNe.out)).trans hS1; clear hmc8 hmf8)
  refine hK.out _ _ hS1 (fun _ => ?_)
  clear hK K
  (try simp only [Act.put, List.setIfInBounds_toArray, List.set_cons_zero, List.set_cons_succ])
  refine wpAnyH_take (i := 9) (oi := ⟨some 80, Op.indexAddr 32 (Operand.tmp 71) (Operand.tmp 72), 0, _, _, none⟩) (v := ?vb9) rfl (by kernel_rfl) (by kernel_rfl) (by kernel_rfl) (fun _ _ _ h => h) (Or.inl ⟨by rfl, ?hb9⟩) hS1 ?rb9
  case hb9 => (intro wz hSw; go_simp <;> with_reducible rfl)
  (try simp only [Act.put, List.setIfInBounds_toArray, List.set_cons_zero, List.set_cons_succ])
  refine wpAnyH_take (i := 10) (oi := ⟨some 81, Op.fieldAddr 42 (Operand.tmp 80) 5, 0, _, _, none⟩) (v := ?vb10) rfl (by kernel_rfl) (by kernel_rfl) (by kernel_rfl) (fun _ _ _ h => h) (Or.inl ⟨by rfl, ?hb10⟩) hS1 ?rb10
  case hb10 => (intro wz hSw; go_simp <;> with_reducible rfl)
  (try simp only [Act.put, List.setIfInBounds_toArray, List.set_cons_zero, List.set_cons_succ])
  refine wpAnyH_ready (rs := [11]) (by kernel_rfl) (by simp) ?_
  refine AllReadyH.cons (o := ⟨none, Op.store 3 (Operand.tmp 81) (Operand.tmp 79), 0, _, _, none⟩) rfl (fun K hK => ?_) AllReadyH.nil
  have zc := HLd8.out; have zf := HFz8.out
  go_simp
  refine hK.out _ _ hS8 (fun _ => ?_)
  clear hK K
  (try simp only [Act.put, List.setIfInBounds_toArray, List.set_cons_zero, List.set_cons_succ])
  refine wpAnyH_done (by kernel_rfl) ?_ _
  refine NoPanic.normal ?_
  clear hS1 hS0 hS8 hBv
  have HO9 : Hid (OW ac (v1.setCell ⟨mb, k * 6 + 5, none⟩ (.int .i64 (fullL a (stkL a x.stacks)))) w2.heap.size (.slice (some ⟨mb, 0, none⟩) l.length c3) (((l.set k (⟨x.aura, x.source, stkL a x.stacks, x.untl, x.nxt, x.left⟩ : Ac)).set k (⟨x.aura, x.source, stkL a x.stacks, held (now + a.ticks), x.nxt, x.left⟩ : Ac)).set k (⟨x.aura, x.source, stkL a x.stacks, held (now + a.ticks), x.nxt, fullL a (stkL a x.stacks)⟩ : Ac))) := Lib.hid (HO8.out.poke rfl HM2.out (j := 5) (by decide) rfl)
  go_wp2
  go_ret2
  have hfin : ((l.set k (⟨x.aura, x.source, stkL a x.stacks, x.untl, x.nxt, x.left⟩ : Ac)).set k (⟨x.aura, x.source, stkL a x.stacks, held (now + a.ticks), x.nxt, x.left⟩ : Ac)).set k (⟨x.aura, x.source, stkL a x.stacks, held (now + a.ticks), x.nxt, fullL a (stkL a x.stacks)⟩ : Ac) = l.set k (againL a now x) := by simp [againL]
  have HO10 := HO9.out; rw [hfin] at HO10
  refine ⟨some ⟨mb, 0, none⟩, c3, ret_ap ?_ ?_, Lib.hid ?_, ?_⟩
  · rw [show apL c.au l id src now = l.set k (againL a now x) by rw [(ap_again HY.out HPI.out HXk.out).2, HAE.out]]; simp
  · rw [(ap_again (now := now) HY.out HPI.out HXk.out).1]
  · rw [show apL c.au l id src now = l.set k (againL a now x) by rw [(ap_again HY.out HPI.out HXk.out).2, HAE.out]]; have h9 := HO10.mono HV3.out.size; simpa using h9
  · exact HV8.out.setCell (Nat.le_trans HV3.out.size HMB.out) _
theorem apply_any {w : World} {B : Nat} {c : Cn} {A : Option Addr} {l : List Ac} {n cp : Nat} (id src now : Int) (hA : AuC c w) (hau : ∀ a ∈ c.au, NAu a) (hac : ∀ a ∈ l, NAc a) (hn : l.length = n) (hl : (n : Int) ≤ 100000) (hr : RW ac w B A l) (hB : B ≤ w.heap.size) (hno : Fits now) :
    Calls Try.prog 9 #[cnv c, .slice A n cp, .int .i64 id, .int .i64 src, .int .i64 now] w (ApA w (apL c.au l id src now) (apE c.au l id src)) := by
  cases hy : lkB c.au id with
  | false => exact apply_none id src now hA hau hn hl hr hB hy
  | true =>
    rcases idx_cases (isAc id src) l with ⟨h1, _⟩ | ⟨k, x, h1, h2, _⟩
    · by_cases h16 : 16 ≤ l.length
      · exact apply_full id src now hA hau hn hl hr hB hy h1 h16
      · exact apply_new id src now hA hau hn hl hr hB hno hy h1 h16
    · exact apply_again id src now hA hau hac hn hl hr hB hno hy h1 h2
end Go.Proofs.Ytijobbdgiaiocaa.Con
