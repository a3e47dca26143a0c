/-
  Contracts of the document's own Ready and Next.
-/
import Derived.Test.YtmdnjkiciaidiaaCda
import Derived.Test.YtmdnjkiciaidiaaBmx
import Derived.Deep.RegionHeld3
namespace Go.Proofs.Ytmdnjkiciaidiaa.Con
open Go.RowKit Go.Maps

theorem step_max {w : World} {ops : Array Oper} {o : Oper} {a : Act} {K : Act → World → Prop} {Q : Exit → Act → World → Prop} {Ep : Prop} (hgd : o.guard = none) (x y : Operand) (u v m : Int)
    (ho : o.op = .call { callee := .builtin .max, args := #[x, y], argTypes := #[3, 3] }) (hx : a.eval x = .int .i64 u) (hy : a.eval y = .int .i64 v) (hm : mx u v = m)
    (h : K (a.put o.dst (.int .i64 m)) w) : if Region.wanted o (yielded ops a.tmps) = true then Oper.wp Try.prog o a w K Q else Ep := by
  have hw : Region.wanted o (yielded ops a.tmps) = true := by simp [Region.wanted, hgd]
  rw [if_pos hw]
  have hrun := run_max Try.prog o.type u v w
  rw [hm] at hrun
  unfold Oper.wp execOp
  simp only [ho, resolve, invoke, builtin, Sem.run_bind, Sem.run_pure, Result.andThen_ok, List.map_toArray, List.map_cons, List.map_nil, hx, hy, hrun]
  exact h
theorem rd_mx {ch : Int} {n : Nat} (hc : Fits ch) (hn : (n : Int) ≤ 1000000) : mx (held (ch - n)) 0 = rdI ch n := by
  unfold Fits at hc
  unfold mx held rdI
  (repeat' split) <;> omega

set_option maxRecDepth 20000 in
set_option maxHeartbeats 4000000 in
theorem rready_any {w : World} {B : Nat} {A : Option Addr} {l : List Co} {n cp : Nat} (a : Abl) (now : Int) (hch : Fits a.charges) (hn : l.length = n) (hl : (n : Int) ≤ 1000000) (hbk : ∀ x ∈ l, x.bk.length ≤ 1000) (hr : KRc w B A l) (hB : B ≤ w.heap.size) :
    Calls Try.prog 20 #[.slice A n cp, ablv a, .int .i64 now] w fun e w' => e = .returned (.int .i64 (rdI a.charges (wyI (l.map Co.pl) a.id now).length)) ∧ Below w.heap.size w w' := by
  have hb := below_box w (oAbl a)
  have HX := Lib.hid hb
  have HC0 : Hid (∀ V, Below w.heap.size w V → Calls Try.prog 29 #[.slice A n cp, .int .i64 a.id, .int .i64 now] V (NuO V (wyI (l.map Co.pl) a.id now))) := Lib.hid (fun V hV => raway_any a.id now hn hl hbk (hr.below hV hB) (Nat.le_trans hB hV.size))
  have HCH := Lib.hid hch
  obtain ⟨n1, hn1⟩ : ∃ n1, (wyI (l.map Co.pl) a.id now).length = n1 := ⟨_, rfl⟩
  have HN1 := Lib.hid hn1
  have hle : n1 ≤ 1000 := by
    rw [← hn1]
    refine Nat.le_trans (aw_len _ _) ?_
    by_cases e : 1 ≤ (bkI (l.map Co.pl) a.id).length
    · obtain ⟨x, hx, hq⟩ := List.mem_map.1 (bk_in e)
      injection hq with _ q
      rw [← q]; exact hbk x hx
    · omega
  have HFN : Hid (Fits (n1 : Int)) := Lib.hid ⟨by omega, by omega⟩
  have HMX := Lib.hid (rd_mx (n := n1) hch (by omega))
  rw [hn1]
  clear hr hB hbk hch hn1 hle
  go_enter Try.func20, Try.ntmps20
  go_wp2
  have HZ : Hid (∀ wz, Below (w.alloc (oAbl a)).heap.size (w.alloc (oAbl a)) wz → w.heap.size < wz.heap.size ∧ wz.heap[w.heap.size]? = some (oAbl a) ∧ wz.cell? ⟨w.heap.size, 0, none⟩ = some (.int .i64 a.id) ∧ wz.cell? ⟨w.heap.size, 2, none⟩ = some (.int .i64 a.cool) ∧ wz.cell? ⟨w.heap.size, 3, none⟩ = some (.int .i64 a.charges)) := Lib.hid (fun wz h => box_abl h)
  have HC : Hid (∀ V, Below (w.alloc (oAbl a)).heap.size (w.alloc (oAbl a)) V → Calls Try.prog 29 #[.slice A n cp, .int .i64 a.id, .int .i64 now] V (NuO V (wyI (l.map Co.pl) a.id now))) := Lib.hid (fun V hV => HC0.out V (HX.out.trans (hV.mono HX.out.size)))
  generalize w.alloc (oAbl a) = V at *
  refine wp_region_noPanic ?_
  refine wp_region_held_drew (S := fun w' => Below V.heap.size V w') (by kernel_rfl) ((Below.refl _ _).drew) (fun hS0 => ?_)
  generalize V.drew = v0 at hS0 ⊢
  refine wpAnyH_take (i := 0) (oi := ⟨some 7, Op.fieldAddr 25 (Operand.tmp 4) 3, 0, _, _, none⟩) (v := ?va0) rfl (by kernel_rfl) (by kernel_rfl) (by kernel_rfl) (fun _ _ _ h => h) (Or.inl ⟨by rfl, ?ha0⟩) hS0 ?ra0
  case ha0 => (intro wz hSw; go_simp <;> with_reducible rfl)
  (try simp only [Act.put, List.setIfInBounds_toArray, List.set_cons_zero, List.set_cons_succ])
  refine wpAnyH_take (i := 1) (oi := ⟨some 8, Op.load 3 (Operand.tmp 7), 3, _, _, none⟩) (v := ?va1) rfl (by kernel_rfl) (by kernel_rfl) (by kernel_rfl) (fun _ _ _ h => h) (Or.inl ⟨by rfl, ?ha1⟩) hS0 ?ra1
  case ha1 => (intro wz hSw; obtain ⟨_, _, z0, z2, z3⟩ := HZ.out wz hSw; go_simp <;> with_reducible rfl)
  (try simp only [Act.put, List.setIfInBounds_toArray, List.set_cons_zero, List.set_cons_succ])
  refine wpAnyH_take (i := 2) (oi := ⟨some 9, Op.move (Operand.tmp 0), 22, _, _, none⟩) (v := ?va2) rfl (by kernel_rfl) (by kernel_rfl) (by kernel_rfl) (fun _ _ _ h => h) (Or.inl ⟨by rfl, ?ha2⟩) hS0 ?ra2
  case ha2 => (intro wz hSw; go_simp <;> with_reducible rfl)
  (try simp only [Act.put, List.setIfInBounds_toArray, List.set_cons_zero, List.set_cons_succ])
  refine wpAnyH_take (i := 3) (oi := ⟨some 10, Op.fieldAddr 25 (Operand.tmp 4) 0, 0, _, _, none⟩) (v := ?va3) rfl (by kernel_rfl) (by kernel_rfl) (by kernel_rfl) (fun _ _ _ h => h) (Or.inl ⟨by rfl, ?ha3⟩) hS0 ?ra3
  case ha3 => (intro wz hSw; go_simp <;> with_reducible rfl)
  (try simp only [Act.put, List.setIfInBounds_toArray, List.set_cons_zero, List.set_cons_succ])
  refine wpAnyH_take (i := 4) (oi := ⟨some 11, Op.load 3 (Operand.tmp 10), 3, _, _, none⟩) (v := ?va4) rfl (by kernel_rfl) (by kernel_rfl) (by kernel_rfl) (fun _ _ _ h => h) (Or.inl ⟨by rfl, ?ha4⟩) hS0 ?ra4
  case ha4 => (intro wz hSw; obtain ⟨_, _, z0, z2, z3⟩ := HZ.out wz hSw; go_simp <;> with_reducible rfl)
  (try simp only [Act.put, List.setIfInBounds_toArray, List.set_cons_zero, List.set_cons_succ])
  refine wpAnyH_take (i := 5) (oi := ⟨some 12, Op.move (Operand.tmp 2), 3, _, _, none⟩) (v := ?va5) rfl (by kernel_rfl) (by kernel_rfl) (by kernel_rfl) (fun _ _ _ h => h) (Or.inl ⟨by rfl, ?ha5⟩) hS0 ?ra5
  case ha5 => (intro wz hSw; go_simp <;> with_reducible rfl)
  (try simp only [Act.put, List.setIfInBounds_toArray, List.set_cons_zero, List.set_cons_succ])
  refine wpAnyH_ready (rs := [6]) (by kernel_rfl) (by simp) ?_
  refine AllReadyH.cons (o := ⟨some 13, Op.call { callee := Callee.value (Operand.func 29), args := #[Operand.tmp 9, Operand.tmp 11, Operand.tmp 12], argTypes := #[22, 3, 3] }, 33, _, _, none⟩) rfl (fun K hK => ?_) AllReadyH.nil
  go_simp
  (with_reducible refine (HC.out v0 hS0).mono ?_); rintro e v1 ⟨A3, c3, lm, rfl, hlm, hO, hBv⟩; have hS1 : Below V.heap.size V v1 := hS0.trans (hBv.out.mono hS0.size); have hn1 : lm.length = n1 := by rw [hlm.out]; exact HN1.out
  refine hK.out _ _ hS1 (fun _ => ?_)
  clear hK K
  (try simp only [Act.put, List.setIfInBounds_toArray, List.set_cons_zero, List.set_cons_succ])
  refine wpAnyH_take (i := 7) (oi := ⟨some 14, Op.call { callee := Callee.builtin Builtin.len, args := #[Operand.tmp 13], argTypes := #[33] }, 3, _, _, none⟩) (v := ?va7) rfl (by kernel_rfl) (by kernel_rfl) (by kernel_rfl) (fun _ _ _ h => h) (Or.inl ⟨by rfl, ?ha7⟩) hS1 ?ra7
  case ha7 => (intro wz hSw; go_simp <;> with_reducible rfl)
  (try simp only [Act.put, List.setIfInBounds_toArray, List.set_cons_zero, List.set_cons_succ])
  refine wpAnyH_ready (rs := [8]) (by kernel_rfl) (by simp) ?_
  refine AllReadyH.cons (o := ⟨some 15, Op.call { callee := Callee.value (Operand.func 36), args := #[Operand.tmp 8, Operand.tmp 14], argTypes := #[3, 3] }, 3, _, _, none⟩) rfl (fun K hK => ?_) AllReadyH.nil
  rw [hn1]
  go_simp
  (with_reducible refine (rsub_any a.charges n1 v1 HCH.out HFN.out).mono ?_); rintro e v2 ⟨rfl, rfl⟩
  refine hK.out _ _ hS1 (fun _ => ?_)
  clear hK K
  (try simp only [Act.put, List.setIfInBounds_toArray, List.set_cons_zero, List.set_cons_succ])
  refine wpAnyH_ready (rs := [9]) (by kernel_rfl) (by simp) ?_
  refine AllReadyH.cons (o := ⟨some 16, Op.call { callee := Callee.builtin Builtin.max, args := #[Operand.tmp 15, Operand.const (Value.int IntKind.i64 0)], argTypes := #[3, 3] }, 3, _, _, none⟩) rfl (fun K hK => ?_) AllReadyH.nil
  refine step_max rfl (.tmp 15) (.const (.int .i64 0)) (held (a.charges - n1)) 0 (rdI a.charges n1) rfl (by simp [Act.eval]) (by simp [Act.eval]) HMX.out ?_
  refine hK.out _ _ hS1 (fun _ => ?_)
  clear hK K
  (try simp only [Act.put, List.setIfInBounds_toArray, List.set_cons_zero, List.set_cons_succ])
  refine wpAnyH_take (i := 10) (oi := ⟨some 6, Op.assign (Operand.tmp 16), 3, _, _, none⟩) (v := ?va10) rfl (by kernel_rfl) (by kernel_rfl) (by kernel_rfl) (fun _ _ _ h => h) (Or.inl ⟨by rfl, ?ha10⟩) hS1 ?ra10
  case ha10 => (intro wz hSw; go_simp <;> with_reducible rfl)
  (try simp only [Act.put, List.setIfInBounds_toArray, List.set_cons_zero, List.set_cons_succ])
  refine wpAnyH_done (by kernel_rfl) ?_ _
  refine NoPanic.normal ?_
  have HV1 := Lib.hid hS1
  clear hS1 hS0 hBv hO
  go_wp2
  go_ret
  exact ⟨rfl, HX.out.trans (HV1.out.mono HX.out.size)⟩

set_option maxRecDepth 20000 in
set_option maxHeartbeats 4000000 in
theorem rnext_any {w : World} {B : Nat} {A : Option Addr} {l : List Co} {n cp : Nat} (a : Abl) (now : Int) (hch : Fits a.charges) (hn : l.length = n) (hl : (n : Int) ≤ 1000000) (hbk : ∀ x ∈ l, x.bk.length ≤ 1000) (hr : KRc w B A l) (hB : B ≤ w.heap.size) :
    Calls Try.prog 22 #[.slice A n cp, ablv a, .int .i64 now] w fun e w' => e = .returned (.int .i64 (nxI (l.map Co.pl) a.id a.charges now)) ∧ Below w.heap.size w w' := by
  have hb := below_box w (oAbl a)
  have HX := Lib.hid hb
  have HC0 : Hid (∀ V, Below w.heap.size w V → Calls Try.prog 29 #[.slice A n cp, .int .i64 a.id, .int .i64 now] V (NuO V (wyI (l.map Co.pl) a.id now))) := Lib.hid (fun V hV => raway_any a.id now hn hl hbk (hr.below hV hB) (Nat.le_trans hB hV.size))
  have HR0 : Hid (∀ V, Below w.heap.size w V → Calls Try.prog 20 #[.slice A n cp, ablv a, .int .i64 now] V fun e w' => e = .returned (.int .i64 (rdI a.charges (wyI (l.map Co.pl) a.id now).length)) ∧ Below V.heap.size V w') := Lib.hid (fun V hV => rready_any a now hch hn hl hbk (hr.below hV hB) (Nat.le_trans hB hV.size))
  obtain ⟨P, hP⟩ : ∃ P, wyI (l.map Co.pl) a.id now = P := ⟨_, rfl⟩
  have HP := Lib.hid hP
  unfold nxI
  rw [hP]
  clear hr hB hbk hch hP
  go_enter Try.func22, Try.ntmps22
  have HZ : Hid (∀ wz, Below (w.alloc (oAbl a)).heap.size (w.alloc (oAbl a)) wz → w.heap.size < wz.heap.size ∧ wz.heap[w.heap.size]? = some (oAbl a) ∧ wz.cell? ⟨w.heap.size, 0, none⟩ = some (.int .i64 a.id) ∧ wz.cell? ⟨w.heap.size, 2, none⟩ = some (.int .i64 a.cool) ∧ wz.cell? ⟨w.heap.size, 3, none⟩ = some (.int .i64 a.charges)) := Lib.hid (fun wz h => box_abl h)
  have HR1 := Lib.hid (HR0.out _ HX.out)
  rw [HP.out] at HR1
  have zb0 := cellsAbl (HZ.out _ (Below.refl _ _)).2.1
  have hlt0 := (HZ.out _ (Below.refl _ _)).1
  by_cases hp : (P.length : Int) < a.charges
  · rw [if_pos hp]
    have hr0 : decide (0 < rdI a.charges P.length) = true := by simpa using rd_pos.2 hp
    go_wp2_with (first
      | ((with_reducible refine HR1.out.mono ?_); rintro e w2 ⟨rfl, hB2⟩; have HV2 := Lib.hid hB2; clear hB2))
    go_ret
    exact ⟨rfl, HX.out.trans (HV2.out.mono HX.out.size)⟩
  · rw [if_neg hp]
    have hr0 : decide (0 < rdI a.charges P.length) = false := by
      have := rd_zero.2 (by omega : a.charges ≤ (P.length : Int)); simp [this]
    by_cases hc1 : a.charges < 1
    · rw [if_pos hc1]
      have hc1' : decide (a.charges < 1) = true := by simpa using hc1
      go_wp2_with (first
        | ((with_reducible refine HR1.out.mono ?_); rintro e w2 ⟨rfl, hB2⟩; obtain ⟨y1, y2, y3, y4, y5⟩ := HZ.out w2 hB2; clear zb0 hlt0; have HV2 := Lib.hid hB2; clear hB2))
      go_ret
      exact ⟨rfl, HX.out.trans (HV2.out.mono HX.out.size)⟩
    · rw [if_neg hc1]
      have hc1' : decide (a.charges < 1) = false := by simpa using hc1
      have hp0 : 0 < P.length := by omega
      go_wp2_with (first
        | ((with_reducible refine HR1.out.mono ?_); rintro e w2 ⟨rfl, hB2⟩; obtain ⟨y1, y2, y3, y4, y5⟩ := HZ.out w2 hB2; clear zb0 hlt0; have HV2 := Lib.hid hB2; have HC2 := Lib.hid (HC0.out w2 (HX.out.trans (hB2.mono HX.out.size))); rw [HP.out] at HC2; clear hB2)
        | ((with_reducible refine HC2.out.mono ?_); rintro e w3 ⟨A3, c3, lm, rfl, hlm, hO, hB3⟩; have HV3 := Lib.hid (HV2.out.trans (hB3.out.mono HV2.out.size)); have hq := hlm.out; subst hq; obtain ⟨f, hf⟩ : ∃ f, lm[0]? = some f := ⟨_, List.getElem?_eq_getElem hp0⟩; obtain ⟨b2, off2, hA2, hp2, f0⟩ := rowNu (OW.pw hO.out).rw' hf (Below.refl _ _) (Nat.le_refl _); subst hA2; rw [Nat.add_zero] at f0; have HHd : Hid (lm.headD 0 = f) := Lib.hid (by cases lm with | nil => simp at hf | cons x r => simpa using hf)))
      rw [HHd.out]
      go_ret
      exact ⟨rfl, HX.out.trans (HV3.out.mono HX.out.size)⟩
end Go.Proofs.Ytmdnjkiciaidiaa.Con
