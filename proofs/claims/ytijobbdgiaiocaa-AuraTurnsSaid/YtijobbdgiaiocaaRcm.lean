/-
  Contracts of the document's own Check and Right.
-/
import Derived.Test.YtijobbdgiaiocaaRcl

namespace Go.Proofs.Ytijobbdgiaiocaa.Con
open Go.RowKit Go.Maps

theorem rowAb1 {w W : World} {B B' : Nat} {A : Option Addr} {l : List Ab} (hr : RW ab w B A l) {k : Nat} {x : Ab} (hx : l[k]? = some x) (hb : Below B' w W) (hB : B ≤ B') {p off : Nat} (hA : A = some ⟨p, off, none⟩) : W.cell? ⟨p, off + k * 8, none⟩ = some (.int .i64 x.id) ∧ W.cell? ⟨p, off + k * 8 + 1, none⟩ = some (.int .i64 x.cast) ∧ W.cell? ⟨p, off + k * 8 + 2, none⟩ = some (.int .i64 x.cool) ∧ W.cell? ⟨p, off + k * 8 + 3, none⟩ = some (.int .i64 x.charges) ∧ W.cell? ⟨p, off + k * 8 + 4, none⟩ = some (.int .i64 x.range) ∧ W.cell? ⟨p, off + k * 8 + 5, none⟩ = some (.int .i64 x.cost) ∧ W.cell? ⟨p, off + k * 8 + 6, none⟩ = some (.bool x.sight) ∧ W.cell? ⟨p, off + k * 8 + 7, none⟩ = some (.slice x.ea x.eff.length x.ec) := by
  obtain ⟨p2, off2, hA2, _, q⟩ := rowAb hr hx hb hB
  rw [hA] at hA2; injection hA2 with e; injection e with e1 e2; subst e1; subst e2
  exact q
theorem rowFo1 {w W : World} {B B' : Nat} {A : Option Addr} {l : List Fo} (hr : RW fo w B A l) {k : Nat} {x : Fo} (hx : l[k]? = some x) (hb : Below B' w W) (hB : B ≤ B') {p off : Nat} (hA : A = some ⟨p, off, none⟩) : W.cell? ⟨p, off + k * 8, none⟩ = some (.int .i64 x.id) ∧ W.cell? ⟨p, off + k * 8 + 1, none⟩ = some (.int .i64 x.health) ∧ W.cell? ⟨p, off + k * 8 + 2, none⟩ = some (.int .i64 x.hit) ∧ W.cell? ⟨p, off + k * 8 + 3, none⟩ = some (.int .i64 x.every) ∧ W.cell? ⟨p, off + k * 8 + 4, none⟩ = some (.int .i64 x.reach) ∧ W.cell? ⟨p, off + k * 8 + 5, none⟩ = some (.slice x.sa x.script.length x.sc) ∧ W.cell? ⟨p, off + k * 8 + 6, none⟩ = some (.slice x.ha x.hoard.length x.hc) ∧ W.cell? ⟨p, off + k * 8 + 7, none⟩ = some (.int .i64 x.drops) := by
  obtain ⟨p2, off2, hA2, _, q⟩ := rowFo hr hx hb hB
  rw [hA] at hA2; injection hA2 with e; injection e with e1 e2; subst e1; subst e2
  exact q
theorem rowAu1 {w W : World} {B B' : Nat} {A : Option Addr} {l : List Au} (hr : RW au w B A l) {k : Nat} {x : Au} (hx : l[k]? = some x) (hb : Below B' w W) (hB : B ≤ B') {p off : Nat} (hA : A = some ⟨p, off, none⟩) : W.cell? ⟨p, off + k * 7, none⟩ = some (.int .i64 x.id) ∧ W.cell? ⟨p, off + k * 7 + 1, none⟩ = some (.int .i64 x.kind) ∧ W.cell? ⟨p, off + k * 7 + 2, none⟩ = some (.int .i64 x.ticks) ∧ W.cell? ⟨p, off + k * 7 + 3, none⟩ = some (.int .i64 x.every) ∧ W.cell? ⟨p, off + k * 7 + 4, none⟩ = some (.int .i64 x.stacks) ∧ W.cell? ⟨p, off + k * 7 + 5, none⟩ = some (.int .i64 x.amount) ∧ W.cell? ⟨p, off + k * 7 + 6, none⟩ = some (.bool x.harm) := by
  obtain ⟨p2, off2, hA2, _, q⟩ := rowAu hr hx hb hB
  rw [hA] at hA2; injection hA2 with e; injection e with e1 e2; subst e1; subst e2
  exact q
theorem take_map {α β : Type} {l : List α} {k : Nat} {x : α} {f : α → β} (h : l[k]? = some x) {m : List β} (hm : m = (l.take k).map f) {y : β} (hy : y = f x) : m ++ [y] = (l.take (k + 1)).map f := by
  rw [hm, hy, List.take_add_one, h]; simp
theorem take_all {α β : Type} {l : List α} {k : Nat} {f : α → β} (h : l.length ≤ k) {m : List β} (hm : m = (l.take k).map f) : m = l.map f := by rw [hm, List.take_of_length_le h]
theorem len_take {α β : Type} {l : List α} {k : Nat} {f : α → β} (hk : k ≤ l.length) {m : List β} (hm : m = (l.take k).map f) : m.length = k := by rw [hm]; simp; omega
theorem len_map {α β γ : Type} {l : List α} {f : α → β} {g : α → γ} {m : List β} {n : List γ} (hm : m = l.map f) (hn : n = l.map g) : n.length = m.length := by rw [hm, hn]; simp
/-- What Check leaves. -/
def CkA (w : World) (c : Cn) (e : Ending) (w' : World) : Prop := ∃ (P T : Int) (x : Bool), e = .returned (.tuple #[.agg #[.int .i64 P, .int .i64 T], .bool x]) ∧ (x = true ↔ RightC c) ∧ Below w.heap.size w w'
theorem cka_no {w w' : World} {c : Cn} (P T : Int) (h : ¬ RightC c) (hb : Below w.heap.size w w') : CkA w c (.returned (.tuple #[.agg #[.int .i64 P, .int .i64 T], .bool false])) w' := ⟨P, T, false, rfl, by simp [h], hb⟩
theorem cka_yes {w w' : World} {c : Cn} (P T : Int) (h : RightC c) (hb : Below w.heap.size w w') : CkA w c (.returned (.tuple #[.agg #[.int .i64 P, .int .i64 T], .bool true])) w' := ⟨P, T, true, rfl, by simp [h], hb⟩
set_option maxRecDepth 40000 in
set_option maxHeartbeats 64000000 in
theorem rcheck_any {w : World} {B : Nat} {c : Cn} (hr : RC w B c) (hB : B ≤ w.heap.size) (hs : Sm c) : Calls Try.prog 56 #[cnv c] w (CkA w c) := by
  have hb : Below w.heap.size w ((w.alloc (oCn c)).alloc (.cells #[.int .i64 0, .int .i64 0] 88)) := by go_grown
  have HB := Lib.hid hb; have HBw := Lib.hid (Nat.le_trans hB hb.size)
  have HR := Lib.hid (hr.below hb hB); have HS := Lib.hid hs
  have HC0 : Hid (((w.alloc (oCn c)).alloc (.cells #[.int .i64 0, .int .i64 0] 88)).heap[w.heap.size]? = some (oCn c)) := Lib.hid ((Below.heap_alloc _ _ _ (by simp)).trans (heap_alloc_new w _))
  have HF0 : Hid (((w.alloc (oCn c)).alloc (.cells #[.int .i64 0, .int .i64 0] 88)).heap[w.heap.size + 1]? = some (.cells #[.int .i64 0, .int .i64 0] 88)) := Lib.hid (by have := heap_alloc_new (w.alloc (oCn c)) (.cells #[.int .i64 0, .int .i64 0] 88); simpa using this)
  have HFr : Hid (w.heap.size ≤ w.heap.size + 1) := Lib.hid (by omega)
  obtain ⟨x1, hx1⟩ := bex (Good (c.ab.map (badOf (AbOk c))) (c.ab.map Ab.id))
  obtain ⟨x2, hx2⟩ := bex (Good (c.au.map (badOf AuOk)) (c.au.map Au.id))
  obtain ⟨x3, hx3⟩ := bex (Good (c.fo.map (badOf (FoOk c))) (c.fo.map Fo.id))
  have HX1 := Lib.hid hx1; have HX2 := Lib.hid hx2; have HX3 := Lib.hid hx3
  clear hb hr hs hB hx1 hx2 hx3
  go_enter Try.func56, Try.ntmps56
  go_wp2_with (fail)
  generalize (w.alloc (oCn c)).alloc (.cells #[.int .i64 0, .int .i64 0] 88) = V at *
  go_loopg [4, 5, 6] c.ab.length (fun m s4 s5 s6 wr => ∃ (k : Nat) (A4 : Option Addr) (c4 : Nat) (bad : List Bool) (A5 : Option Addr) (c5 : Nat) (ids : List Int), k ≤ c.ab.length ∧ m = c.ab.length - k ∧ s4 = .slice A4 bad.length c4 ∧ s5 = .slice A5 ids.length c5 ∧ s6 = .int .i64 (k : Int) ∧ Hid (Below V.heap.size V wr) ∧ Hid (TwoB wr V.heap.size A4 c4 bad A5 c5 ids) ∧ Hid (bad = (c.ab.take k).map (badOf (AbOk c))) ∧ Hid (ids = (c.ab.take k).map Ab.id))
  case atStart => exact ⟨0, none, 0, [], none, 0, [], by omega, rfl, rfl, rfl, rfl, Lib.hid (Below.refl _ _), Lib.hid (TwoB.nil _ _), Lib.hid rfl, Lib.hid rfl⟩
  case round =>
    obtain ⟨k, A4, c4, bad, A5, c5, ids, hk, rfl, rfl, rfl, rfl, HW, HT, HMb, HMi⟩ := hrel
    have HCr := Lib.hid (hkeepW HW.out HC0.out)
    have hc := cellOf1 HCr.out; have lc := lt_blk1 HCr.out
    by_cases hlt : k < c.ab.length
    · have hkl' : (k : Int) < c.ab.length := by omega
      obtain ⟨a, ha⟩ : ∃ a, c.ab[k]? = some a := ⟨_, List.getElem?_eq_getElem hlt⟩
      obtain ⟨p, off, hA, hpl, q0, q1, q2, q3, q4, q5, q6, q7⟩ := rowAb HR.out.abs ha HW.out HBw.out
      have hpw : p < wr.heap.size := Nat.lt_of_lt_of_le hpl (Nat.le_trans HBw.out HW.out.size)
      have hkb : (k : Int) ≤ 1000000 := by have := HS.out.abs; omega
      have HEa := Lib.hid hA; have HAk := Lib.hid ha; have HMem := Lib.hid (List.mem_of_getElem? ha)
      obtain ⟨b, hb⟩ : ∃ b, badOf (AbOk c) a = b := ⟨_, rfl⟩
      have HBb : Hid (b = badOf (AbOk c) a) := Lib.hid hb.symm
      have HBn := Lib.hid (badOf_not hb)
      have HL4 : Hid (bad.length + [b].length ≤ 1000000) := Lib.hid (by have h9 := len_take hk HMb.out; have := HS.out.abs; simp; omega)
      have HI1 : Hid (ids.length + [a.id].length ≤ 1000000) := Lib.hid (by have h9 := len_take hk HMi.out; have := HS.out.abs; simp; omega)
      clear hA ha hb q0 q1 q2 q3 q4 q5 q6 q7
      go_wp2_with (fail)
      have hS0 : Below V.heap.size V wr.drew := HW.out.drew
      have hT0 : TwoB wr.drew V.heap.size A4 c4 bad A5 c5 ids := HT.out.below (Below.refl _ _).drew
      refine wp_region_noPanic ?_
      refine wp_region_held_drew (S := fun w' => Below V.heap.size V w') (by kernel_rfl) hS0 (fun _ => ?_)
      generalize wr.drew = v0 at hS0 hT0 ⊢
      clear hc lc
      refine wpAnyH_take (i := 0) (oi := ⟨some 18, Op.move (Operand.tmp 4), 25, _, _, none⟩) (v := ?va0) rfl (by kernel_rfl) (by kernel_rfl) (by kernel_rfl) (fun _ _ _ h => h) (Or.inl ⟨by rfl, ?ha0⟩) hS0 ?ra0
      case ha0 => (intro wz hSw; go_simp <;> with_reducible rfl)
      (try simp only [Act.put, List.setIfInBounds_toArray, List.set_cons_zero, List.set_cons_succ])
      refine wpAnyH_take (i := 1) (oi := ⟨some 19, Op.load 31 (Operand.tmp 1), 31, _, _, none⟩) (v := ?va1) rfl (by kernel_rfl) (by kernel_rfl) (by kernel_rfl) (fun _ _ _ h => h) (Or.inl ⟨by rfl, ?ha1⟩) hS0 ?ra1
      case ha1 => (intro wz hSw; have z := cellOf1 (hkeepW hSw HC0.out); go_simp <;> with_reducible rfl)
      (try simp only [Act.put, List.setIfInBounds_toArray, List.set_cons_zero, List.set_cons_succ])
      refine wpAnyH_take (i := 2) (oi := ⟨some 20, Op.fieldAddr 31 (Operand.tmp 1) 0, 0, _, _, none⟩) (v := ?va2) rfl (by kernel_rfl) (by kernel_rfl) (by kernel_rfl) (fun _ _ _ h => h) (Or.inl ⟨by rfl, ?ha2⟩) hS0 ?ra2
      case ha2 => (intro wz hSw; go_simp <;> with_reducible rfl)
      (try simp only [Act.put, List.setIfInBounds_toArray, List.set_cons_zero, List.set_cons_succ])
      refine wpAnyH_take (i := 3) (oi := ⟨some 21, Op.load 22 (Operand.tmp 20), 22, _, _, none⟩) (v := ?va3) rfl (by kernel_rfl) (by kernel_rfl) (by kernel_rfl) (fun _ _ _ h => h) (Or.inl ⟨by rfl, ?ha3⟩) hS0 ?ra3
      case ha3 => (intro wz hSw; have z := cellOf1 (hkeepW hSw HC0.out); rw [HEa.out] at z; go_simp <;> with_reducible rfl)
      (try simp only [Act.put, List.setIfInBounds_toArray, List.set_cons_zero, List.set_cons_succ])
      refine wpAnyH_take (i := 4) (oi := ⟨some 22, Op.move (Operand.tmp 6), 3, _, _, none⟩) (v := ?va4) rfl (by kernel_rfl) (by kernel_rfl) (by kernel_rfl) (fun _ _ _ h => h) (Or.inl ⟨by rfl, ?ha4⟩) hS0 ?ra4
      case ha4 => (intro wz hSw; go_simp <;> with_reducible rfl)
      (try simp only [Act.put, List.setIfInBounds_toArray, List.set_cons_zero, List.set_cons_succ])
      refine wpAnyH_take (i := 5) (oi := ⟨some 23, Op.indexAddr 22 (Operand.tmp 21) (Operand.tmp 22), 0, _, _, none⟩) (v := ?va5) rfl (by kernel_rfl) (by kernel_rfl) (by kernel_rfl) (fun _ _ _ h => h) (Or.inl ⟨by rfl, ?ha5⟩) hS0 ?ra5
      case ha5 => (intro wz hSw; go_simp <;> with_reducible rfl)
      (try simp only [Act.put, List.setIfInBounds_toArray, List.set_cons_zero, List.set_cons_succ])
      refine wpAnyH_take (i := 6) (oi := ⟨some 24, Op.load 62 (Operand.tmp 23), 62, _, _, none⟩) (v := ?va6) rfl (by kernel_rfl) (by kernel_rfl) (by kernel_rfl) (fun _ _ _ h => h) (Or.inl ⟨by rfl, ?ha6⟩) hS0 ?ra6
      case ha6 => (intro wz hSw; obtain ⟨q0, q1, q2, q3, q4, q5, q6, q7⟩ := rowAb1 HR.out.abs HAk.out hSw HBw.out HEa.out; go_simp <;> with_reducible rfl)
      (try simp only [Act.put, List.setIfInBounds_toArray, List.set_cons_zero, List.set_cons_succ])
      refine wpAnyH_ready (rs := [7]) (by kernel_rfl) (by simp) ?_
      refine AllReadyH.cons (o := ⟨some 25, Op.call { callee := Callee.value (Operand.func 71), args := #[Operand.tmp 19, Operand.tmp 24], argTypes := #[31, 62] }, 4, _, _, none⟩) rfl (fun K hK => ?_) AllReadyH.nil
      go_simp
      (with_reducible refine (rab1 (HR.out.below hS0 HBw.out) (Nat.le_trans HBw.out hS0.size) HS.out a ((HR.out.effs a HMem.out).below hS0 HBw.out) (!b) HBn.out).mono ?_); rintro e v1 ⟨rfl, hBv⟩; have hS7 := bstep hBv hS0; have hT7 := hT0.below hBv
      refine hK.out _ _ hS7 (fun _ => ?_)
      clear hK K
      (try simp only [Act.put, List.setIfInBounds_toArray, List.set_cons_zero, List.set_cons_succ])
      refine wpAnyH_take (i := 8) (oi := ⟨some 26, Op.unOp UnOp.not 4 (Operand.tmp 25), 4, _, _, none⟩) (v := ?va8) rfl (by kernel_rfl) (by kernel_rfl) (by kernel_rfl) (fun _ _ _ h => h) (Or.inl ⟨by rfl, ?ha8⟩) hS7 ?ra8
      case ha8 => (intro wz hSw; go_simp <;> with_reducible rfl)
      (try simp only [Act.put, List.setIfInBounds_toArray, List.set_cons_zero, List.set_cons_succ])
      refine wpAnyH_ready (rs := [9]) (by kernel_rfl) (by simp) ?_
      refine AllReadyH.cons (o := ⟨some 27, Op.buildSlice 25 1 #[(0, Operand.tmp 26)], 25, _, _, none⟩) rfl (fun K hK => ?_) AllReadyH.nil
      go_simp
      have hR9 : RW bo (v1.alloc (.cells #[.bool b] 4)) (v1.heap.size + 1) (some ⟨v1.heap.size, 0, none⟩) [b] := rw_at bo _ _ _ _ _ rfl rfl rfl; have hS9 := hS7.alloc hS7.size (.cells #[.bool b] 4); have hT9 := hT7.below ((Below.refl _ _).alloc (Nat.le_refl _) (.cells #[.bool b] 4))
      refine hK.out _ _ hS9 (fun _ => ?_)
      clear hK K
      (try simp only [Act.put, List.setIfInBounds_toArray, List.set_cons_zero, List.set_cons_succ])
      refine wpAnyH_ready (rs := [10]) (by kernel_rfl) (by simp) ?_
      refine AllReadyH.cons (o := ⟨some 28, Op.call { callee := Callee.builtin Builtin.append, args := #[Operand.tmp 18, Operand.tmp 27], argTypes := #[25, 25] }, 25, _, _, none⟩) rfl (fun K hK => ?_) AllReadyH.nil
      refine step_app bo rfl 25 rfl (.tmp 18) (.tmp 27) rfl V.heap.size (v1.heap.size + 1) (.slice A4 bad.length c4) bad [b] (some ⟨v1.heap.size, 0, none⟩) 1 1 rfl (by simp [Act.eval]) (by simp [Act.eval]) hT9.o4 hR9 HL4.out hS9.size ?_
      intro A2 c2 v2 lm nl hlm hnl hO hG hW; have HLm := Lib.hid hlm; clear hlm; subst hnl; have hT10 := hT9.app4 hO hG hW; have hS10 : Below V.heap.size V v2 := hS9.grown hG hS9.size (fun b hb => (hT9.o4.lt hb).1)
      refine hK.out _ _ hS10 (fun _ => ?_)
      clear hK K
      (try simp only [Act.put, List.setIfInBounds_toArray, List.set_cons_zero, List.set_cons_succ])
      refine wpAnyH_take (i := 11) (oi := ⟨some 4, Op.assign (Operand.tmp 28), 25, _, _, none⟩) (v := ?va11) rfl (by kernel_rfl) (by kernel_rfl) (by kernel_rfl) (fun _ _ _ h => h) (Or.inl ⟨by rfl, ?ha11⟩) hS10 ?ra11
      case ha11 => (intro wz hSw; go_simp <;> with_reducible rfl)
      (try simp only [Act.put, List.setIfInBounds_toArray, List.set_cons_zero, List.set_cons_succ])
      refine wpAnyH_done (by kernel_rfl) ?_ _
      refine NoPanic.normal ?_
      have HTb := Lib.hid hT10; have HWb := Lib.hid hS10
      clear hT10 hS10 hO hG hW hT9 hS9 hR9 hT7 hS7 hBv hT0 hS0
      have HC2 := Lib.hid (hkeepW HWb.out HC0.out)
      have hc := cellOf1 HC2.out; have lc := lt_blk1 HC2.out
      rw [HEa.out] at hc
      obtain ⟨p', off', hA, hpl', q0, q1, q2, q3, q4, q5, q6, q7⟩ := rowAb HR.out.abs HAk.out HWb.out HBw.out
      have hpe : p' = p ∧ off' = off := by rw [HEa.out] at hA; injection hA with e1; injection e1 with e1 e2; exact ⟨e1.symm, e2.symm⟩
      obtain ⟨rfl, rfl⟩ := hpe
      have hpw2 : p' < v2.heap.size := Nat.lt_of_lt_of_le hpl' (Nat.le_trans HBw.out HWb.out.size)
      clear hA
      go_wp2_with (at_builtin; refine wpList_app nu rfl 77 rfl (.tmp 29) (.tmp 36) rfl V.heap.size (v2.heap.size + 1) (.slice A5 ids.length c5) ids [a.id] (some ⟨v2.heap.size, 0, none⟩) 1 1 rfl rfl rfl (HTb.out.o5.of (below_box v2 _)) (rw_at nu _ _ _ _ _ rfl rfl rfl) HI1.out (by have := HWb.out.size; simp <;> omega) ?_; intro A6 c6 w6 l6 HL6 HO6 HS6 HB6)
      have HT6 : Hid (TwoB w6 V.heap.size A2 c2 lm A6 c6 l6) := Lib.hid ((HTb.out.below ((Below.refl _ _).alloc (Nat.le_refl _) _)).app5 HO6.out HS6.out HB6.out)
      have HW6 : Hid (Below V.heap.size V w6) := Lib.hid ((HWb.out.alloc HWb.out.size _).grown HS6.out (Nat.le_trans HWb.out.size (by simp)) (fun j hj => (HTb.out.o5.lt hj).1))
      go_roundg (c.ab.length - (k + 1))
      case measure => omega
      case rel => exact ⟨k + 1, A2, c2, lm, A6, c6, l6, by omega, rfl, rfl, rfl, by go_num, HW6, HT6, Lib.hid (by rw [HLm.out]; exact take_map HAk.out HMb.out HBb.out), Lib.hid (by rw [HL6.out]; exact take_map HAk.out HMi.out rfl)⟩
    · have hkl' : decide (k < c.ab.length) = false := by simp; omega
      have HBf := Lib.hid (take_all (by omega) HMb.out); have HIf := Lib.hid (take_all (by omega) HMi.out)
      have HFst := Lib.hid (HT.out.first (len_map HBf.out HIf.out) (by have := HS.out.abs; rw [HBf.out]; simp; omega) x1 (by rw [HBf.out, HIf.out]; exact HX1.out))
      clear HMb HMi hk hlt
      cases x1 with
      | false =>
        have HNo : Hid (¬ RightC c) := Lib.hid (fun h => by have h1 := h.1; rw [← good_flaw] at h1; have := HX1.out.2 h1; cases this)
        go_wp2_with (first
          | ((with_reducible refine (HFst.out _ (Below.refl _ _)).mono ?_); rintro e w1 ⟨⟨p1, rfl, hp1⟩, hB1⟩; have hp1' : decide (0 ≤ p1) = true := hp1)
          | ((with_reducible refine (HFst.out _ hB1).mono ?_); rintro e w2 ⟨⟨p2, rfl, hp2⟩, hB2⟩; have hW2 := bstep hB2 (bstep hB1 HW.out); have HZ := Lib.hid (hkeepW hW2 HF0.out); have hz := cellOf1 HZ.out; have lz := lt_blk1 HZ.out; have fz := frozOf1 HZ.out))
        refine bodyPost_ret (by simp [results, Try.results56, go_sem, hz]; try rfl) rfl ?_
        exact cka_no _ _ HNo.out (((HB.out.trans (hW2.mono HB.out.size)).setCell HFr.out _).setCell HFr.out _)
      | true =>
        have HY1 : Hid (Flaw (AbOk c) Ab.id c.ab 0 0 none) := Lib.hid (by rw [← good_flaw]; exact HX1.out.1 rfl)
        go_wp2_with (first
          | ((with_reducible refine (HFst.out _ (Below.refl _ _)).mono ?_); rintro e w1 ⟨⟨p1, rfl, hp1⟩, hB1⟩; have hp1' : decide (0 ≤ p1) = false := hp1))
        have HW1 := Lib.hid (bstep hB1 HW.out)
        clear hB1 hp1 hp1' hkl' hc lc
        generalize (k : Int) = k1 at *
        clear HT HFst HBf HIf HW HCr
        have HW := HW1; clear HW1
        go_loopg [4, 5, 7] c.au.length (fun m s4 s5 s7 wr => ∃ (k : Nat) (A4 : Option Addr) (c4 : Nat) (bad : List Bool) (A5 : Option Addr) (c5 : Nat) (ids : List Int), k ≤ c.au.length ∧ m = c.au.length - k ∧ s4 = .slice A4 bad.length c4 ∧ s5 = .slice A5 ids.length c5 ∧ s7 = .int .i64 (k : Int) ∧ Hid (Below V.heap.size V wr) ∧ Hid (TwoB wr V.heap.size A4 c4 bad A5 c5 ids) ∧ Hid (bad = (c.au.take k).map (badOf AuOk)) ∧ Hid (ids = (c.au.take k).map Au.id))
        case atStart => exact ⟨0, none, 0, [], none, 0, [], by omega, rfl, rfl, rfl, rfl, HW, Lib.hid (TwoB.nil _ _), Lib.hid rfl, Lib.hid rfl⟩
        case round =>
          obtain ⟨k, A4, c4, bad, A5, c5, ids, hk, rfl, rfl, rfl, rfl, HW, HT, HMb, HMi⟩ := hrel
          have HCr := Lib.hid (hkeepW HW.out HC0.out)
          have hc := cellOf1 HCr.out; have lc := lt_blk1 HCr.out
          by_cases hlt : k < c.au.length
          · have hkl' : (k : Int) < c.au.length := by omega
            obtain ⟨a, ha⟩ : ∃ a, c.au[k]? = some a := ⟨_, List.getElem?_eq_getElem hlt⟩
            obtain ⟨p, off, hA, hpl, q0, q1, q2, q3, q4, q5, q6⟩ := rowAu HR.out.aus ha HW.out HBw.out
            have hpw : p < wr.heap.size := Nat.lt_of_lt_of_le hpl (Nat.le_trans HBw.out HW.out.size)
            have hkb : (k : Int) ≤ 1000000 := by have := HS.out.aus; omega
            have HEa := Lib.hid hA; have HAk := Lib.hid ha; have HMem := Lib.hid (List.mem_of_getElem? ha)
            obtain ⟨b, hb⟩ : ∃ b, badOf AuOk a = b := ⟨_, rfl⟩
            have HBb : Hid (b = badOf AuOk a) := Lib.hid hb.symm
            have HBn := Lib.hid (badOf_not hb)
            have HL4 : Hid (bad.length + [b].length ≤ 1000000) := Lib.hid (by have h9 := len_take hk HMb.out; have := HS.out.aus; simp; omega)
            have HI1 : Hid (ids.length + [a.id].length ≤ 1000000) := Lib.hid (by have h9 := len_take hk HMi.out; have := HS.out.aus; simp; omega)
            simp only [hA] at hc
            clear hA ha hb
            go_wp2_with (first
              | ((with_reducible refine (raura1 a _ (!b) HBn.out).mono ?_); rintro e w1 ⟨rfl, hB1⟩; have hW1 := bstep hB1 HW.out; have hT1 := HT.out.below hB1; have hR1 : RW bo (w1.alloc (.cells #[.bool b] 4)) (w1.heap.size + 1) (some ⟨w1.heap.size, 0, none⟩) [b] := rw_at bo _ _ _ _ _ rfl rfl rfl; have hs1 := hW1.size)
              | (at_builtin; refine wpList_app bo rfl 25 rfl (.tmp 53) (.tmp 61) rfl V.heap.size (w1.heap.size + 1) (.slice A4 bad.length c4) bad [b] (some ⟨w1.heap.size, 0, none⟩) 1 1 rfl rfl rfl (hT1.below ((Below.refl _ _).alloc (Nat.le_refl _) _)).o4 hR1 HL4.out (by simp <;> omega) ?_; intro A2 c2 w2 lm HLm HO2 HG2 HV2; have hW1a := hW1.alloc hW1.size (.cells #[.bool b] 4); have hT1a := hT1.below ((Below.refl _ _).alloc (Nat.le_refl _) (.cells #[.bool b] 4)); have HTb : Hid (TwoB w2 V.heap.size A2 c2 lm A5 c5 ids) := Lib.hid (hT1a.app4 HO2.out HG2.out HV2.out); have HWb : Hid (Below V.heap.size V w2) := Lib.hid (hW1a.grown HG2.out hW1a.size (fun b hb => (hT1a.o4.lt hb).1)); clear hW1 hT1 hR1 hW1a hT1a hs1 hB1 hc q0 q1 q2 q3 q4 q5 q6 lc hpw; have HC2 := Lib.hid (hkeepW HWb.out HC0.out); have hc := cellOf1 HC2.out; have lc := lt_blk1 HC2.out; rw [HEa.out] at hc; obtain ⟨q0, q1, q2, q3, q4, q5, q6⟩ := rowAu1 HR.out.aus HAk.out HWb.out HBw.out HEa.out; have hpw2 : p < w2.heap.size := Nat.lt_of_lt_of_le hpl (Nat.le_trans HBw.out HWb.out.size))
              | (at_builtin; refine wpList_app nu rfl 77 rfl (.tmp 63) (.tmp 70) rfl V.heap.size (w2.heap.size + 1) (.slice A5 ids.length c5) ids [a.id] (some ⟨w2.heap.size, 0, none⟩) 1 1 rfl rfl rfl (HTb.out.o5.of (below_box w2 _)) (rw_at nu _ _ _ _ _ rfl rfl rfl) HI1.out (by have := HWb.out.size; simp <;> omega) ?_; intro A6 c6 w6 l6 HL6 HO6 HS6 HB6))
            have HT6 : Hid (TwoB w6 V.heap.size A2 c2 lm A6 c6 l6) := Lib.hid ((HTb.out.below ((Below.refl _ _).alloc (Nat.le_refl _) _)).app5 HO6.out HS6.out HB6.out)
            have HW6 : Hid (Below V.heap.size V w6) := Lib.hid ((HWb.out.alloc HWb.out.size _).grown HS6.out (Nat.le_trans HWb.out.size (by simp)) (fun j hj => (HTb.out.o5.lt hj).1))
            go_roundg (c.au.length - (k + 1))
            case measure => omega
            case rel => exact ⟨k + 1, A2, c2, lm, A6, c6, l6, by omega, rfl, rfl, rfl, by go_num, HW6, HT6, Lib.hid (by rw [HLm.out]; exact take_map HAk.out HMb.out HBb.out), Lib.hid (by rw [HL6.out]; exact take_map HAk.out HMi.out rfl)⟩
          · have hkl' : decide (k < c.au.length) = false := by simp; omega
            have HBf := Lib.hid (take_all (by omega) HMb.out); have HIf := Lib.hid (take_all (by omega) HMi.out)
            have HFst := Lib.hid (HT.out.first (len_map HBf.out HIf.out) (by have := HS.out.aus; rw [HBf.out]; simp; omega) x2 (by rw [HBf.out, HIf.out]; exact HX2.out))
            clear HMb HMi hk hlt
            cases x2 with
            | false =>
              have HNo : Hid (¬ RightC c) := Lib.hid (fun h => by have h1 := h.2.1; rw [← good_flaw] at h1; have := HX2.out.2 h1; cases this)
              go_wp2_with (first
                | ((with_reducible refine (HFst.out _ (Below.refl _ _)).mono ?_); rintro e w1 ⟨⟨p1, rfl, hp1⟩, hB1⟩; have hp1' : decide (0 ≤ p1) = true := hp1)
                | ((with_reducible refine (HFst.out _ hB1).mono ?_); rintro e w2 ⟨⟨p2, rfl, hp2⟩, hB2⟩; have hW2 := bstep hB2 (bstep hB1 HW.out); have HZ := Lib.hid (hkeepW hW2 HF0.out); have hz := cellOf1 HZ.out; have lz := lt_blk1 HZ.out; have fz := frozOf1 HZ.out))
              refine bodyPost_ret (by simp [results, Try.results56, go_sem, hz]; try rfl) rfl ?_
              exact cka_no _ _ HNo.out (((HB.out.trans (hW2.mono HB.out.size)).setCell HFr.out _).setCell HFr.out _)
            | true =>
              have HY2 : Hid (Flaw AuOk Au.id c.au 0 0 none) := Lib.hid (by rw [← good_flaw]; exact HX2.out.1 rfl)
              go_wp2_with (first
                | ((with_reducible refine (HFst.out _ (Below.refl _ _)).mono ?_); rintro e w1 ⟨⟨p1, rfl, hp1⟩, hB1⟩; have hp1' : decide (0 ≤ p1) = false := hp1))
              have HW1 := Lib.hid (bstep hB1 HW.out)
              clear hB1 hp1 hp1' hkl' hc lc
              generalize (k : Int) = k2 at *
              clear HT HFst HBf HIf HW HCr
              have HW := HW1; clear HW1
              go_loopg [4, 5, 8] c.fo.length (fun m s4 s5 s8 wr => ∃ (k : Nat) (A4 : Option Addr) (c4 : Nat) (bad : List Bool) (A5 : Option Addr) (c5 : Nat) (ids : List Int), k ≤ c.fo.length ∧ m = c.fo.length - k ∧ s4 = .slice A4 bad.length c4 ∧ s5 = .slice A5 ids.length c5 ∧ s8 = .int .i64 (k : Int) ∧ Hid (Below V.heap.size V wr) ∧ Hid (TwoB wr V.heap.size A4 c4 bad A5 c5 ids) ∧ Hid (bad = (c.fo.take k).map (badOf (FoOk c))) ∧ Hid (ids = (c.fo.take k).map Fo.id))
              case atStart => exact ⟨0, none, 0, [], none, 0, [], by omega, rfl, rfl, rfl, rfl, HW, Lib.hid (TwoB.nil _ _), Lib.hid rfl, Lib.hid rfl⟩
              case round =>
                obtain ⟨k, A4, c4, bad, A5, c5, ids, hk, rfl, rfl, rfl, rfl, HW, HT, HMb, HMi⟩ := hrel
                have HCr := Lib.hid (hkeepW HW.out HC0.out)
                have hc := cellOf1 HCr.out; have lc := lt_blk1 HCr.out
                by_cases hlt : k < c.fo.length
                · have hkl' : (k : Int) < c.fo.length := by omega
                  obtain ⟨a, ha⟩ : ∃ a, c.fo[k]? = some a := ⟨_, List.getElem?_eq_getElem hlt⟩
                  obtain ⟨p, off, hA, hpl, q0, q1, q2, q3, q4, q5, q6, q7⟩ := rowFo HR.out.fos ha HW.out HBw.out
                  have hpw : p < wr.heap.size := Nat.lt_of_lt_of_le hpl (Nat.le_trans HBw.out HW.out.size)
                  have hkb : (k : Int) ≤ 1000000 := by have := HS.out.fos; omega
                  have HEa := Lib.hid hA; have HAk := Lib.hid ha; have HMem := Lib.hid (List.mem_of_getElem? ha)
                  obtain ⟨b, hb⟩ : ∃ b, badOf (FoOk c) a = b := ⟨_, rfl⟩
                  have HBb : Hid (b = badOf (FoOk c) a) := Lib.hid hb.symm
                  have HBn := Lib.hid (badOf_not hb)
                  have HL4 : Hid (bad.length + [b].length ≤ 1000000) := Lib.hid (by have h9 := len_take hk HMb.out; have := HS.out.fos; simp; omega)
                  have HI1 : Hid (ids.length + [a.id].length ≤ 1000000) := Lib.hid (by have h9 := len_take hk HMi.out; have := HS.out.fos; simp; omega)
                  clear hA ha hb q0 q1 q2 q3 q4 q5 q6 q7
                  go_wp2_with (fail)
                  have hS0 : Below V.heap.size V wr.drew := HW.out.drew
                  have hT0 : TwoB wr.drew V.heap.size A4 c4 bad A5 c5 ids := HT.out.below (Below.refl _ _).drew
                  refine wp_region_noPanic ?_
                  refine wp_region_held_drew (S := fun w' => Below V.heap.size V w') (by kernel_rfl) hS0 (fun _ => ?_)
                  generalize wr.drew = v0 at hS0 hT0 ⊢
                  clear hc lc
                  refine wpAnyH_take (i := 0) (oi := ⟨some 87, Op.move (Operand.tmp 4), 25, _, _, none⟩) (v := ?vc0) rfl (by kernel_rfl) (by kernel_rfl) (by kernel_rfl) (fun _ _ _ h => h) (Or.inl ⟨by rfl, ?hc0⟩) hS0 ?rc0
                  case hc0 => (intro wz hSw; go_simp <;> with_reducible rfl)
                  (try simp only [Act.put, List.setIfInBounds_toArray, List.set_cons_zero, List.set_cons_succ])
                  refine wpAnyH_take (i := 1) (oi := ⟨some 88, Op.load 31 (Operand.tmp 1), 31, _, _, none⟩) (v := ?vc1) rfl (by kernel_rfl) (by kernel_rfl) (by kernel_rfl) (fun _ _ _ h => h) (Or.inl ⟨by rfl, ?hc1⟩) hS0 ?rc1
                  case hc1 => (intro wz hSw; have z := cellOf1 (hkeepW hSw HC0.out); go_simp <;> with_reducible rfl)
                  (try simp only [Act.put, List.setIfInBounds_toArray, List.set_cons_zero, List.set_cons_succ])
                  refine wpAnyH_take (i := 2) (oi := ⟨some 89, Op.fieldAddr 31 (Operand.tmp 1) 2, 0, _, _, none⟩) (v := ?vc2) rfl (by kernel_rfl) (by kernel_rfl) (by kernel_rfl) (fun _ _ _ h => h) (Or.inl ⟨by rfl, ?hc2⟩) hS0 ?rc2
                  case hc2 => (intro wz hSw; go_simp <;> with_reducible rfl)
                  (try simp only [Act.put, List.setIfInBounds_toArray, List.set_cons_zero, List.set_cons_succ])
                  refine wpAnyH_take (i := 3) (oi := ⟨some 90, Op.load 24 (Operand.tmp 89), 24, _, _, none⟩) (v := ?vc3) rfl (by kernel_rfl) (by kernel_rfl) (by kernel_rfl) (fun _ _ _ h => h) (Or.inl ⟨by rfl, ?hc3⟩) hS0 ?rc3
                  case hc3 => (intro wz hSw; have z := cellOf1 (hkeepW hSw HC0.out); rw [HEa.out] at z; go_simp <;> with_reducible rfl)
                  (try simp only [Act.put, List.setIfInBounds_toArray, List.set_cons_zero, List.set_cons_succ])
                  refine wpAnyH_take (i := 4) (oi := ⟨some 91, Op.move (Operand.tmp 8), 3, _, _, none⟩) (v := ?vc4) rfl (by kernel_rfl) (by kernel_rfl) (by kernel_rfl) (fun _ _ _ h => h) (Or.inl ⟨by rfl, ?hc4⟩) hS0 ?rc4
                  case hc4 => (intro wz hSw; go_simp <;> with_reducible rfl)
                  (try simp only [Act.put, List.setIfInBounds_toArray, List.set_cons_zero, List.set_cons_succ])
                  refine wpAnyH_take (i := 5) (oi := ⟨some 92, Op.indexAddr 24 (Operand.tmp 90) (Operand.tmp 91), 0, _, _, none⟩) (v := ?vc5) rfl (by kernel_rfl) (by kernel_rfl) (by kernel_rfl) (fun _ _ _ h => h) (Or.inl ⟨by rfl, ?hc5⟩) hS0 ?rc5
                  case hc5 => (intro wz hSw; go_simp <;> with_reducible rfl)
                  (try simp only [Act.put, List.setIfInBounds_toArray, List.set_cons_zero, List.set_cons_succ])
                  refine wpAnyH_take (i := 6) (oi := ⟨some 93, Op.load 66 (Operand.tmp 92), 66, _, _, none⟩) (v := ?vc6) rfl (by kernel_rfl) (by kernel_rfl) (by kernel_rfl) (fun _ _ _ h => h) (Or.inl ⟨by rfl, ?hc6⟩) hS0 ?rc6
                  case hc6 => (intro wz hSw; obtain ⟨q0, q1, q2, q3, q4, q5, q6, q7⟩ := rowFo1 HR.out.fos HAk.out hSw HBw.out HEa.out; go_simp <;> with_reducible rfl)
                  (try simp only [Act.put, List.setIfInBounds_toArray, List.set_cons_zero, List.set_cons_succ])
                  refine wpAnyH_ready (rs := [7]) (by kernel_rfl) (by simp) ?_
                  refine AllReadyH.cons (o := ⟨some 94, Op.call { callee := Callee.value (Operand.func 74), args := #[Operand.tmp 88, Operand.tmp 93], argTypes := #[31, 66] }, 4, _, _, none⟩) rfl (fun K hK => ?_) AllReadyH.nil
                  go_simp
                  (with_reducible refine (rfoe1 (HR.out.below hS0 HBw.out) (Nat.le_trans HBw.out hS0.size) HS.out a ((HR.out.scrs a HMem.out).below hS0 HBw.out) ((HR.out.hors a HMem.out).below hS0 HBw.out) (!b) HBn.out).mono ?_); rintro e v1 ⟨rfl, hBv⟩; have hS7 := bstep hBv hS0; have hT7 := hT0.below hBv
                  refine hK.out _ _ hS7 (fun _ => ?_)
                  clear hK K
                  (try simp only [Act.put, List.setIfInBounds_toArray, List.set_cons_zero, List.set_cons_succ])
                  refine wpAnyH_take (i := 8) (oi := ⟨some 95, Op.unOp UnOp.not 4 (Operand.tmp 94), 4, _, _, none⟩) (v := ?vc8) rfl (by kernel_rfl) (by kernel_rfl) (by kernel_rfl) (fun _ _ _ h => h) (Or.inl ⟨by rfl, ?hc8⟩) hS7 ?rc8
                  case hc8 => (intro wz hSw; go_simp <;> with_reducible rfl)
                  (try simp only [Act.put, List.setIfInBounds_toArray, List.set_cons_zero, List.set_cons_succ])
                  refine wpAnyH_ready (rs := [9]) (by kernel_rfl) (by simp) ?_
                  refine AllReadyH.cons (o := ⟨some 96, Op.buildSlice 25 1 #[(0, Operand.tmp 95)], 25, _, _, none⟩) rfl (fun K hK => ?_) AllReadyH.nil
                  go_simp
                  have hR9 : RW bo (v1.alloc (.cells #[.bool b] 4)) (v1.heap.size + 1) (some ⟨v1.heap.size, 0, none⟩) [b] := rw_at bo _ _ _ _ _ rfl rfl rfl; have hS9 := hS7.alloc hS7.size (.cells #[.bool b] 4); have hT9 := hT7.below ((Below.refl _ _).alloc (Nat.le_refl _) (.cells #[.bool b] 4))
                  refine hK.out _ _ hS9 (fun _ => ?_)
                  clear hK K
                  (try simp only [Act.put, List.setIfInBounds_toArray, List.set_cons_zero, List.set_cons_succ])
                  refine wpAnyH_ready (rs := [10]) (by kernel_rfl) (by simp) ?_
                  refine AllReadyH.cons (o := ⟨some 97, Op.call { callee := Callee.builtin Builtin.append, args := #[Operand.tmp 87, Operand.tmp 96], argTypes := #[25, 25] }, 25, _, _, none⟩) rfl (fun K hK => ?_) AllReadyH.nil
                  refine step_app bo rfl 25 rfl (.tmp 87) (.tmp 96) rfl V.heap.size (v1.heap.size + 1) (.slice A4 bad.length c4) bad [b] (some ⟨v1.heap.size, 0, none⟩) 1 1 rfl (by simp [Act.eval]) (by simp [Act.eval]) hT9.o4 hR9 HL4.out hS9.size ?_
                  intro A2 c2 v2 lm nl hlm hnl hO hG hW; have HLm := Lib.hid hlm; clear hlm; subst hnl; have hT10 := hT9.app4 hO hG hW; have hS10 : Below V.heap.size V v2 := hS9.grown hG hS9.size (fun b hb => (hT9.o4.lt hb).1)
                  refine hK.out _ _ hS10 (fun _ => ?_)
                  clear hK K
                  (try simp only [Act.put, List.setIfInBounds_toArray, List.set_cons_zero, List.set_cons_succ])
                  refine wpAnyH_take (i := 11) (oi := ⟨some 4, Op.assign (Operand.tmp 97), 25, _, _, none⟩) (v := ?vc11) rfl (by kernel_rfl) (by kernel_rfl) (by kernel_rfl) (fun _ _ _ h => h) (Or.inl ⟨by rfl, ?hc11⟩) hS10 ?rc11
                  case hc11 => (intro wz hSw; go_simp <;> with_reducible rfl)
                  (try simp only [Act.put, List.setIfInBounds_toArray, List.set_cons_zero, List.set_cons_succ])
                  refine wpAnyH_done (by kernel_rfl) ?_ _
                  refine NoPanic.normal ?_
                  have HTb := Lib.hid hT10; have HWb := Lib.hid hS10
                  clear hT10 hS10 hO hG hW hT9 hS9 hR9 hT7 hS7 hBv hT0 hS0
                  have HC2 := Lib.hid (hkeepW HWb.out HC0.out)
                  have hc := cellOf1 HC2.out; have lc := lt_blk1 HC2.out
                  rw [HEa.out] at hc
                  obtain ⟨p', off', hA, hpl', q0, q1, q2, q3, q4, q5, q6, q7⟩ := rowFo HR.out.fos HAk.out HWb.out HBw.out
                  have hpe : p' = p ∧ off' = off := by rw [HEa.out] at hA; injection hA with e1; injection e1 with e1 e2; exact ⟨e1.symm, e2.symm⟩
                  obtain ⟨rfl, rfl⟩ := hpe
                  have hpw2 : p' < v2.heap.size := Nat.lt_of_lt_of_le hpl' (Nat.le_trans HBw.out HWb.out.size)
                  clear hA
                  go_wp2_with (at_builtin; refine wpList_app nu rfl 77 rfl (.tmp 98) (.tmp 105) rfl V.heap.size (v2.heap.size + 1) (.slice A5 ids.length c5) ids [a.id] (some ⟨v2.heap.size, 0, none⟩) 1 1 rfl rfl rfl (HTb.out.o5.of (below_box v2 _)) (rw_at nu _ _ _ _ _ rfl rfl rfl) HI1.out (by have := HWb.out.size; simp <;> omega) ?_; intro A6 c6 w6 l6 HL6 HO6 HS6 HB6)
                  have HT6 : Hid (TwoB w6 V.heap.size A2 c2 lm A6 c6 l6) := Lib.hid ((HTb.out.below ((Below.refl _ _).alloc (Nat.le_refl _) _)).app5 HO6.out HS6.out HB6.out)
                  have HW6 : Hid (Below V.heap.size V w6) := Lib.hid ((HWb.out.alloc HWb.out.size _).grown HS6.out (Nat.le_trans HWb.out.size (by simp)) (fun j hj => (HTb.out.o5.lt hj).1))
                  go_roundg (c.fo.length - (k + 1))
                  case measure => omega
                  case rel => exact ⟨k + 1, A2, c2, lm, A6, c6, l6, by omega, rfl, rfl, rfl, by go_num, HW6, HT6, Lib.hid (by rw [HLm.out]; exact take_map HAk.out HMb.out HBb.out), Lib.hid (by rw [HL6.out]; exact take_map HAk.out HMi.out rfl)⟩
                · have hkl' : decide (k < c.fo.length) = false := by simp; omega
                  have HBf := Lib.hid (take_all (by omega) HMb.out); have HIf := Lib.hid (take_all (by omega) HMi.out)
                  have HFst := Lib.hid (HT.out.first (len_map HBf.out HIf.out) (by have := HS.out.fos; rw [HBf.out]; simp; omega) x3 (by rw [HBf.out, HIf.out]; exact HX3.out))
                  clear HMb HMi hk hlt
                  cases x3 with
                  | false =>
                    have HNo : Hid (¬ RightC c) := Lib.hid (fun h => by have h1 := h.2.2.1; rw [← good_flaw] at h1; have := HX3.out.2 h1; cases this)
                    go_wp2_with (first
                      | ((with_reducible refine (HFst.out _ (Below.refl _ _)).mono ?_); rintro e w1 ⟨⟨p1, rfl, hp1⟩, hB1⟩; have hp1' : decide (0 ≤ p1) = true := hp1)
                      | ((with_reducible refine (HFst.out _ hB1).mono ?_); rintro e w2 ⟨⟨p2, rfl, hp2⟩, hB2⟩; have hW2 := bstep hB2 (bstep hB1 HW.out); have HZ := Lib.hid (hkeepW hW2 HF0.out); have hz := cellOf1 HZ.out; have lz := lt_blk1 HZ.out; have fz := frozOf1 HZ.out))
                    refine bodyPost_ret (by simp [results, Try.results56, go_sem, hz]; try rfl) rfl ?_
                    exact cka_no _ _ HNo.out (((HB.out.trans (hW2.mono HB.out.size)).setCell HFr.out _).setCell HFr.out _)
                  | true =>
                    have HY3 : Hid (Flaw (FoOk c) Fo.id c.fo 0 0 none) := Lib.hid (by rw [← good_flaw]; exact HX3.out.1 rfl)
                    obtain ⟨y1, hy1⟩ : ∃ y, wallB c.W c.H c.wl c.dx c.dy = y := ⟨_, rfl⟩
                    obtain ⟨y2, hy2⟩ : ∃ y, wallB c.W c.H c.wl c.lx c.ly = y := ⟨_, rfl⟩
                    have HD1 : Hid (∀ U, Below V.heap.size V U → Calls Try.prog 75 #[gv c.W c.H c.gA c.wl.length c.gC, pv c.dx c.dy] U fun e w' => e = .returned (.bool y1) ∧ Below U.heap.size U w') := Lib.hid (fun U hU => by rw [← hy1]; exact rwall_any c.W c.H c.gA c.wl c.gC c.dx c.dy U B (HR.out.wls.below hU HBw.out) (Nat.le_trans HBw.out hU.size))
                    have HD2 : Hid (∀ U, Below V.heap.size V U → Calls Try.prog 75 #[gv c.W c.H c.gA c.wl.length c.gC, pv c.lx c.ly] U fun e w' => e = .returned (.bool y2) ∧ Below U.heap.size U w') := Lib.hid (fun U hU => by rw [← hy2]; exact rwall_any c.W c.H c.gA c.wl c.gC c.lx c.ly U B (HR.out.wls.below hU HBw.out) (Nat.le_trans HBw.out hU.size))
                    have HM : Hid (RightC c ↔ y1 = false ∧ y2 = false) := Lib.hid ⟨fun h => ⟨hy1.symm.trans h.2.2.2.2.1, hy2.symm.trans h.2.2.2.2.2⟩, fun h => ⟨HY1.out, HY2.out, HY3.out, map_wall (hy1.trans h.1), hy1.trans h.1, hy2.trans h.2⟩⟩
                    clear hy1 hy2
                    cases y1 <;> cases y2
                    all_goals
                      first
                        | (have HRt : Hid (RightC c) := Lib.hid (HM.out.2 ⟨rfl, rfl⟩); clear HM)
                        | (have HRn : Hid (¬ RightC c) := Lib.hid (fun h => by have := HM.out.1 h; simp at this); clear HM)
                      go_wp2_with (first
                        | ((with_reducible refine (HFst.out _ (Below.refl _ _)).mono ?_); rintro e w1 ⟨⟨p1, rfl, hp1⟩, hB1⟩; have hp1' : decide (0 ≤ p1) = false := hp1; have hW1 := bstep hB1 HW.out; have HCw := Lib.hid (hkeepW hW1 HC0.out); clear hc lc; have hc := cellOf1 HCw.out; have lc := lt_blk1 HCw.out)
                        | ((with_reducible refine (HD1.out _ hW1).mono ?_); rintro e w4 ⟨rfl, hB4⟩; have hW4 := bstep hB4 hW1; have HC4 := Lib.hid (hkeepW hW4 HC0.out); clear hc lc; have hc := cellOf1 HC4.out; have lc := lt_blk1 HC4.out)
                        | ((with_reducible refine (HD2.out _ hW4).mono ?_); rintro e w5 ⟨rfl, hB5⟩; have hW5 := bstep hB5 hW4; have HZ := Lib.hid (hkeepW hW5 HF0.out); have hz := cellOf1 HZ.out; have lz := lt_blk1 HZ.out; have fz := frozOf1 HZ.out; clear hc lc))
                      refine bodyPost_ret (by simp [results, Try.results56, go_sem, hz]; try rfl) rfl ?_
                      first
                        | exact cka_yes _ _ HRt.out (((HB.out.trans (hW5.mono HB.out.size)).setCell HFr.out _).setCell HFr.out _)
                        | exact cka_no _ _ HRn.out (((HB.out.trans (hW5.mono HB.out.size)).setCell HFr.out _).setCell HFr.out _)
theorem rright10 {w : World} {B : Nat} {c : Cn} (hr : RC w B c) (hB : B ≤ w.heap.size) (hs : Sm c) (x : Bool) (hx : x = true ↔ RightC c) : Calls Try.prog 41 #[cnv c] w fun e w' => e = .returned (.bool x) ∧ Below w.heap.size w w' := by
  have HR := Lib.hid hr; have HX := Lib.hid hx; have HS := Lib.hid hs; clear hr hx hs
  go_enter Try.func41, Try.ntmps41
  go_wp2_with (first | ((with_reducible refine (rcheck_any (HR.out.below (by go_grown) hB) (by go_size) HS.out).mono ?_); rintro e w1 ⟨P, T, y, rfl, hy, hB1⟩; have hV1 := bstep hB1 (V := w) (by go_grown); clear hB1; have HYe := Lib.hid (iff_eq HX.out hy)))
  go_ret
  exact ⟨ret_bool HYe.out.symm, hV1.alloc hV1.size _⟩
end Go.Proofs.Ytijobbdgiaiocaa.Con
