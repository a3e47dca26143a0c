/-
  Contracts of the program's calls that write a grid and content as numbers; append of numbers as a step of a region that draws.
-/
import Derived.Test.YtpjenkgimkndaaaGreatFlb
import Derived.Deep.RegionHeld3
import Derived.Deep.Cut
namespace Go.Proofs.YtpjenkgimkndaaaGreat.Con
open Go.RowKit Go.Maps Pm Mth

/-- Append of numbers as a step of a region that draws. -/
theorem step_appI {w : World} {ops : Array Oper} {o : Oper} {a : Act} {K : Act → World → Prop} {Q : Exit → Act → World → Prop} {Ep : Prop} (hgd : o.guard = none) (s x : Operand)
    (ho : o.op = .call { callee := .builtin .append, args := #[s, x], argTypes := #[35, 35] })
    (base B : Nat) (A0 : Option Addr) (c0 n0 : Nat) (l m : List Int) (A : Option Addr) (c n : Nat) (hn0 : l.length = n0) (hn : m.length = n) (hs : a.eval s = .slice A0 n0 c0) (hx : a.eval x = .slice A n c)
    (hown : Own w base .i64 3 A0 c0 l) (hr : Rd .i64 w B A m) (hlen : l.length + m.length ≤ 17179869184) (hbase : base ≤ w.heap.size)
    (h : ∀ A' c' w' lm, lm = l ++ m → Own w' base .i64 3 A' c' lm → Step w w' (blk A0) A' → K (a.put o.dst (.slice A' lm.length c')) w') :
    if Region.wanted o (yielded ops a.tmps) = true then Oper.wp Tryz.prog o a w K Q else Ep := by
  subst hn0; subst hn
  have hw : Region.wanted o (yielded ops a.tmps) = true := by simp [Region.wanted, hgd]
  rw [if_pos hw]
  obtain ⟨A', c', w', hrun, h2, h3⟩ := Pm.run_app (K := .i64) Tryz.underlying35 int_info rfl (by omega) w base B o.type A0 c0 l m A c hown hr hlen hbase
  unfold Oper.wp execOp
  simp only [ho, resolve, invoke, builtin, Sem.run_bind, Sem.run_pure, Result.andThen_ok, List.map_toArray, List.map_cons, List.map_nil, hs, hx, hrun]
  exact h A' c' w' (l ++ m) rfl h2 h3
theorem Own.drew {w : World} {base : Nat} {K : IntKind} {e : TypeId} {A : Option Addr} {c : Nat} {l : List Int} (h : Own w base K e A c l) : Own w.drew base K e A c l := h
theorem step_drew {w w' : World} {r : Option Nat} {A : Option Addr} (h : Step w w' r A) : Step w w'.drew r A := ⟨⟨h.grown.os, h.grown.tape, h.grown.output, h.grown.size, h.grown.block⟩, h.lies⟩
theorem cellOf' {w : World} {b : Nat} {cs : Array Value} {t : TypeId} {z : Nat × Nat} (h : w.heap[b]? = some (.cells cs t z)) (o : Nat) : w.cell? ⟨b, o, none⟩ = cs[o]? := by simp [World.cell?, h]
theorem lt_of_block {w : World} {b : Nat} {x : Obj} (h : w.heap[b]? = some x) : b < w.heap.size := (Array.getElem?_eq_some_iff.1 h).1
/-- A box that was laid behind the row stays as it was. -/
theorem step_keep {w V w' : World} {base : Nat} {A A' : Option Addr} {c : Nat} {l : List Int} {b : Nat} {x : Obj} (h : Step V w' (blk A) A') (ho : Own w base .i64 3 A c l) (hb : w.heap.size ≤ b) (hc : V.heap[b]? = some x) : w'.heap[b]? = some x :=
  (h.grown.block b (lt_of_block hc) (fun e => by have := (ho.lt b e.symm).2; omega)).trans hc
set_option maxRecDepth 20000 in
set_option maxHeartbeats 4000000 in
theorem flatGrid_any (W H : Int) (gA : Option Addr) (wl : List Bool) (gC : Nat) (w : World) (base : Nat) (A : Option Addr) (c : Nat) (l : List Int) (ho : Own w base .i64 3 A c l) (hl : ((l ++ ([W, H] ++ fRows fTr wl)).length : Int) ≤ 1000000) (hb : base ≤ w.heap.size) (B : Nat) (hr : RB w B gA wl) (hB : B ≤ base) :
    Calls Tryz.prog 30 #[.slice A l.length c, gv W H gA wl.length gC] w (WI w base (blk A) (l ++ ([W, H] ++ fRows fTr wl))) := by
  have HBX : Hid ((w.alloc (.cells #[.int .i64 W, .int .i64 H, .slice gA wl.length gC] 27)).heap[w.heap.size]? = some (.cells #[.int .i64 W, .int .i64 H, .slice gA wl.length gC] 27)) := Lib.hid (heap_alloc_new w _)
  have HO := Lib.hid ho; have HL := Lib.hid hl; have HL1 := Lib.hid (room1 (room3 hl)); have HB9 := Lib.hid hb; have HR := Lib.hid hr; have HB := Lib.hid hB
  clear ho hl hb hr hB
  go_enter Tryz.func30, Tryz.ntmps30
  go_wp2_with (fail)
  refine wp_region_noPanic ?_
  refine wp_region_held_drew (S := fun wz => wz.heap[w.heap.size]? = some (.cells #[.int .i64 W, .int .i64 H, .slice gA wl.length gC] 27)) (by kernel_rfl) HBX.out (fun _ => ?_)
  have hS0 : ((w.alloc (.cells #[.int .i64 W, .int .i64 H, .slice gA wl.length gC] 27)).drew).heap[w.heap.size]? = some (.cells #[.int .i64 W, .int .i64 H, .slice gA wl.length gC] 27) := HBX.out
  have hOv : Own ((w.alloc (.cells #[.int .i64 W, .int .i64 H, .slice gA wl.length gC] 27)).drew) base .i64 3 A c l := (HO.out.alloc _)
  have hv0 : ((w.alloc (.cells #[.int .i64 W, .int .i64 H, .slice gA wl.length gC] 27)).drew).heap.size = w.heap.size + 1 := by simp
  have hT0 : Step w ((w.alloc (.cells #[.int .i64 W, .int .i64 H, .slice gA wl.length gC] 27)).drew) (blk A) A := step_drew ((Step.refl w A).alloc _)
  generalize (w.alloc (.cells #[.int .i64 W, .int .i64 H, .slice gA wl.length gC] 27)).drew = v0 at hS0 hOv hv0 hT0 ⊢
  refine wpAnyH_take (i := 0) (oi := ⟨some 5, Op.move (Operand.tmp 0), 35, _, _, none⟩) (v := ?va0) rfl (by kernel_rfl) (by kernel_rfl) (by kernel_rfl) (fun _ _ _ h => h) (Or.inl ⟨by rfl, ?ha0⟩) hS0 ?ra0
  case ha0 => (intro wz hSw; go_simp <;> with_reducible rfl)
  (try simp only [Act.put, List.setIfInBounds_toArray, List.set_cons_zero, List.set_cons_succ])
  refine wpAnyH_take (i := 1) (oi := ⟨some 6, Op.fieldAddr 27 (Operand.tmp 3) 0, 0, _, _, none⟩) (v := ?va1) rfl (by kernel_rfl) (by kernel_rfl) (by kernel_rfl) (fun _ _ _ h => h) (Or.inl ⟨by rfl, ?ha1⟩) hS0 ?ra1
  case ha1 => (intro wz hSw; go_simp <;> with_reducible rfl)
  (try simp only [Act.put, List.setIfInBounds_toArray, List.set_cons_zero, List.set_cons_succ])
  refine wpAnyH_take (i := 2) (oi := ⟨some 7, Op.load 3 (Operand.tmp 6), 3, _, _, none⟩) (v := ?va2) rfl (by kernel_rfl) (by kernel_rfl) (by kernel_rfl) (fun _ _ _ h => h) (Or.inl ⟨by rfl, ?ha2⟩) hS0 ?ra2
  case ha2 => (intro wz hSw; have z := cellOf' hSw; go_simp <;> with_reducible rfl)
  (try simp only [Act.put, List.setIfInBounds_toArray, List.set_cons_zero, List.set_cons_succ])
  refine wpAnyH_take (i := 3) (oi := ⟨some 8, Op.fieldAddr 27 (Operand.tmp 3) 1, 0, _, _, none⟩) (v := ?va3) rfl (by kernel_rfl) (by kernel_rfl) (by kernel_rfl) (fun _ _ _ h => h) (Or.inl ⟨by rfl, ?ha3⟩) hS0 ?ra3
  case ha3 => (intro wz hSw; go_simp <;> with_reducible rfl)
  (try simp only [Act.put, List.setIfInBounds_toArray, List.set_cons_zero, List.set_cons_succ])
  refine wpAnyH_take (i := 4) (oi := ⟨some 9, Op.load 3 (Operand.tmp 8), 3, _, _, none⟩) (v := ?va4) rfl (by kernel_rfl) (by kernel_rfl) (by kernel_rfl) (fun _ _ _ h => h) (Or.inl ⟨by rfl, ?ha4⟩) hS0 ?ra4
  case ha4 => (intro wz hSw; have z := cellOf' hSw; go_simp <;> with_reducible rfl)
  (try simp only [Act.put, List.setIfInBounds_toArray, List.set_cons_zero, List.set_cons_succ])
  refine wpAnyH_take (i := 7) (oi := ⟨some 12, Op.fieldAddr 27 (Operand.tmp 3) 2, 0, _, _, none⟩) (v := ?va7) rfl (by kernel_rfl) (by kernel_rfl) (by kernel_rfl) (fun _ _ _ h => h) (Or.inl ⟨by rfl, ?ha7⟩) hS0 ?ra7
  case ha7 => (intro wz hSw; go_simp <;> with_reducible rfl)
  (try simp only [Act.put, List.setIfInBounds_toArray, List.set_cons_zero, List.set_cons_succ])
  refine wpAnyH_take (i := 8) (oi := ⟨some 13, Op.load 25 (Operand.tmp 12), 25, _, _, none⟩) (v := ?va8) rfl (by kernel_rfl) (by kernel_rfl) (by kernel_rfl) (fun _ _ _ h => h) (Or.inl ⟨by rfl, ?ha8⟩) hS0 ?ra8
  case ha8 => (intro wz hSw; have z := cellOf' hSw; go_simp <;> with_reducible rfl)
  (try simp only [Act.put, List.setIfInBounds_toArray, List.set_cons_zero, List.set_cons_succ])
  refine wpAnyH_ready (rs := [5]) (by kernel_rfl) (by simp) ?_
  refine AllReadyH.cons (o := ⟨some 10, Op.buildSlice 35 2 #[(0, Operand.tmp 7), (1, Operand.tmp 9)], 35, _, _, none⟩) rfl (fun K hK => ?_) AllReadyH.nil
  go_simp
  have hS5 := (Below.heap_alloc v0 (.cells (vs .i64 [W, H]).toArray 3) _ (lt_of_block hS0)).trans hS0
  refine hK.out _ _ hS5 (fun _ => ?_)
  clear hK K
  (try simp only [Act.put, List.setIfInBounds_toArray, List.set_cons_zero, List.set_cons_succ])
  refine wpAnyH_ready (rs := [6]) (by kernel_rfl) (by simp) ?_
  refine AllReadyH.cons (o := ⟨some 11, Op.call { callee := Callee.builtin Builtin.append, args := #[Operand.tmp 5, Operand.tmp 10], argTypes := #[35, 35] }, 35, _, _, none⟩) rfl (fun K hK => ?_) AllReadyH.nil
  refine step_appI rfl (.tmp 5) (.tmp 10) rfl base (v0.heap.size + 1) A c l.length l [W, H] (some ⟨v0.heap.size, 0, none⟩) 2 2 rfl rfl (by simp [Act.eval]) (by simp [Act.eval]) (hOv.alloc _) (rd_new v0 _ _ _ rfl) HL1.out (by have := HB9.out; simp; omega) ?_
  intro A2 c2 w2 l2 HL2 HO2 HS2; replace HL2 := Lib.hid HL2; have hS6 := step_keep HS2 HO.out (Nat.le_refl _) hS5; have HT2 : Step w w2 (blk A) A2 := (hT0.alloc _).trans HS2
  refine hK.out _ _ hS6 (fun _ => ?_)
  clear hK K
  (try simp only [Act.put, List.setIfInBounds_toArray, List.set_cons_zero, List.set_cons_succ])
  refine wpAnyH_ready (rs := [9]) (by kernel_rfl) (by simp) ?_
  refine AllReadyH.cons (o := ⟨some 14, Op.call { callee := Callee.value (Operand.func 61), args := #[Operand.tmp 11, Operand.tmp 13, Operand.func 54], argTypes := #[35, 25, 102] }, 35, _, _, none⟩) rfl (fun K hK => ?_) AllReadyH.nil
  go_simp
  (with_reducible refine (flatRows_bo wl gA gC _ base A2 c2 l2 HO2 (room2 HL.out HL2.out) (step_le HT2 HB9.out) B (HR.out.below (step_low HT2 HO.out HB9.out) HB.out) HB.out).mono ?_); rintro e w3 ⟨l3, A3, c3, HL3, rfl, HO3, HS3⟩; have hS9 := step_keep (HS2.trans HS3.out) HO.out (Nat.le_refl _) hS5
  refine hK.out _ _ hS9 (fun _ => ?_)
  clear hK K
  (try simp only [Act.put, List.setIfInBounds_toArray, List.set_cons_zero, List.set_cons_succ])
  refine wpAnyH_take (i := 10) (oi := ⟨some 4, Op.assign (Operand.tmp 14), 35, _, _, none⟩) (v := ?va10) rfl (by kernel_rfl) (by kernel_rfl) (by kernel_rfl) (fun _ _ _ h => h) (Or.inl ⟨by rfl, ?ha10⟩) hS9 ?ra10
  case ha10 => (intro wz hSw; go_simp <;> with_reducible rfl)
  (try simp only [Act.put, List.setIfInBounds_toArray, List.set_cons_zero, List.set_cons_succ])
  refine wpAnyH_done (by kernel_rfl) ?_ _
  refine NoPanic.normal ?_
  go_wp2
  go_ret
  exact wi_at (HT2.trans HS3.out) HO3.out (join2 HL3.out HL2.out)
/-- Nothing of before has turned. -/
theorem none_low {w w' : World} {A : Option Addr} (h : Step w w' none A) : Below w.heap.size w w' := ⟨h.grown.os, h.grown.tape, h.grown.output, h.grown.size, fun k hk => h.grown.block k hk (by simp)⟩
theorem own_none (w : World) (b : Nat) : Own w b .i64 3 none 0 [] := ⟨rfl, .inl ⟨rfl, rfl⟩⟩
theorem blk_none' : blk none = none := rfl
theorem WI.none {w : World} {base : Nat} {l : List Int} {e : Ending} {w' : World} (h : WI w base (blk none) l e w') : WI w base none l e w' := h
theorem fCn_len {c : Cn} (hl : (c.ab.length : Int) ≤ 100 ∧ (c.au.length : Int) ≤ 100 ∧ (c.fo.length : Int) ≤ 100 ∧ (c.wl.length : Int) ≤ 10000) (h1 : ∀ a ∈ c.ab, (a.eff.length : Int) ≤ 100) (h2 : ∀ f ∈ c.fo, (f.script.length : Int) ≤ 100) (h3 : ∀ f ∈ c.fo, (f.hoard.length : Int) ≤ 100) : (fCn c).length ≤ 200000 := by
  have e1 := fRows_len (g := fAb) (l := c.ab) (k := 308) (fun x hx => by
    have := h1 x hx
    have := fRows_len (g := fEf) (l := x.eff) (k := 3) (fun _ _ => by simp [fEf])
    unfold fAb; rw [List.length_append]; simp; omega)
  have e2 := fRows_len (g := fAu) (l := c.au) (k := 7) (fun _ _ => by simp [fAu])
  have e3 := fRows_len (g := fFo) (l := c.fo) (k := 708) (fun x hx => by
    have := h2 x hx
    have := h3 x hx
    have := fRows_len (g := fLn) (l := x.script) (k := 5) (fun _ _ => by simp [fLn])
    have := fRows_len (g := fPz) (l := x.hoard) (k := 2) (fun _ _ => by simp [fPz])
    unfold fFo; rw [List.length_append, List.length_append]; simp; omega)
  have e4 := fRows_len (g := fTr) (l := c.wl) (k := 1) (fun _ _ => by simp [fTr])
  have a1 : c.ab.length * 308 ≤ 100 * 308 := Nat.mul_le_mul_right _ (by omega)
  have a2 : c.au.length * 7 ≤ 100 * 7 := Nat.mul_le_mul_right _ (by omega)
  have a3 : c.fo.length * 708 ≤ 100 * 708 := Nat.mul_le_mul_right _ (by omega)
  have a4 : c.wl.length * 1 ≤ 10000 * 1 := Nat.mul_le_mul_right _ (by omega)
  unfold fCn
  simp only [List.length_append, List.length_cons, List.length_nil]
  omega
theorem flatRows_ab0 (m : List Ab) (A2 : Option Addr) (c2 : Nat) (w : World) (base : Nat) (ho : Own w base .i64 3 none 0 []) (hl : ((([] : List Int) ++ fRows fAb m).length : Int) ≤ 1000000) (hb : base ≤ w.heap.size) (B : Nat) (hr : RW ab w B A2 m) (hB : B ≤ base) (he : ∀ a ∈ m, RW ef w B a.ea a.eff) :
    Calls Tryz.prog 24 #[.slice none 0 0, .slice A2 m.length c2, .func (.func 25) #[] #[]] w (WI w base none ([] ++ fRows fAb m)) :=
  flatRows_ab m A2 c2 w base none 0 [] ho hl hb B hr hB he
/-- What Flat answers: the numbers, in new memory. -/
def NI (w : World) (l : List Int) (e : Ending) (w' : World) : Prop :=
  ∃ lm A c, Hid (lm = l) ∧ e = .returned (.slice A lm.length c) ∧ Hid (Own w' w.heap.size .i64 3 A c lm) ∧ Hid (Below w.heap.size w w')
set_option maxRecDepth 20000 in
set_option maxHeartbeats 4000000 in
theorem flat_c {w : World} {B : Nat} (x : Cn) (hr : RC w B x) (hB : B ≤ w.heap.size) (hl : ((fCn x).length : Int) ≤ 1000000) :
    Calls Tryz.prog 10 #[cnv x] w (NI w (fCn x)) := by
  have hl2 : ((([] : List Int) ++ (fRows fAb x.ab ++ (fRows fAu x.au ++ (fRows fFo x.fo ++ (([x.W, x.H] ++ fRows fTr x.wl) ++ ([x.dx, x.dy] ++ [x.lx, x.ly])))))).length : Int) ≤ 1000000 := by have := hl; simpa [fCn] using this
  have HL := Lib.hid hl2
  have hb0 : Below w.heap.size w (w.alloc (.cells #[.slice x.aA x.ab.length x.aC, .slice x.uA x.au.length x.uC, .slice x.fA x.fo.length x.fC, .int .i64 x.W, .int .i64 x.H, .slice x.gA x.wl.length x.gC, .int .i64 x.dx, .int .i64 x.dy, .int .i64 x.lx, .int .i64 x.ly] 31)) := by go_grown
  have HBX : Hid (∀ o, (w.alloc (.cells #[.slice x.aA x.ab.length x.aC, .slice x.uA x.au.length x.uC, .slice x.fA x.fo.length x.fC, .int .i64 x.W, .int .i64 x.H, .slice x.gA x.wl.length x.gC, .int .i64 x.dx, .int .i64 x.dy, .int .i64 x.lx, .int .i64 x.ly] 31)).cell? ⟨w.heap.size, o, none⟩ = _) := Lib.hid (fun o => cellOf' (heap_alloc_new w _) o)
  have HRC := Lib.hid (hr.more hB); have HB0 := Lib.hid hb0; have HW0 : Hid (w.heap.size < (w.alloc (.cells #[.slice x.aA x.ab.length x.aC, .slice x.uA x.au.length x.uC, .slice x.fA x.fo.length x.fC, .int .i64 x.W, .int .i64 x.H, .slice x.gA x.wl.length x.gC, .int .i64 x.dx, .int .i64 x.dy, .int .i64 x.lx, .int .i64 x.ly] 31)).heap.size) := Lib.hid (by simp)
  have HO0 := Lib.hid (own_none (w.alloc (.cells #[.slice x.aA x.ab.length x.aC, .slice x.uA x.au.length x.uC, .slice x.fA x.fo.length x.fC, .int .i64 x.W, .int .i64 x.H, .slice x.gA x.wl.length x.gC, .int .i64 x.dx, .int .i64 x.dy, .int .i64 x.lx, .int .i64 x.ly] 31)) w.heap.size)
  clear hl hl2 hb0 hr hB
  have hz0 := HBX.out
  have HL0 : Hid (([] : List Int) = []) := Lib.hid rfl
  go_enter Tryz.func10, Tryz.ntmps10
  go_wp2_with (fail)
  generalize hw0 : w.alloc (.cells #[.slice x.aA x.ab.length x.aC, .slice x.uA x.au.length x.uC, .slice x.fA x.fo.length x.fC, .int .i64 x.W, .int .i64 x.H, .slice x.gA x.wl.length x.gC, .int .i64 x.dx, .int .i64 x.dy, .int .i64 x.lx, .int .i64 x.ly] 31) = w0 at *
  have HT0 : Hid (Step w0 w0 none none) := Lib.hid (Step.refl w0 none)
  have HZ0 := Lib.hid (none_low HT0.out)
  go_wp2_with (first
    | ((with_reducible refine (flatRows_ab0 x.ab x.aA x.aC _ w.heap.size HO0.out (room3 HL.out) (Nat.le_of_lt HW0.out) w.heap.size (HRC.out.abs.below (HB0.out.trans (HZ0.out.mono (by have := HW0.out; omega))) (Nat.le_refl _)) (Nat.le_refl _) (fun q hq => (HRC.out.effs q hq).below (HB0.out.trans (HZ0.out.mono (by have := HW0.out; omega))) (Nat.le_refl _))).mono ?_); rintro e w1 ⟨l1, A1, c1, HL1, rfl, HO1, HS1⟩; have HT1 : Hid (Step w0 w1 none A1) := Lib.hid (HT0.out.trans HS1.out); have HZ1 := Lib.hid (none_low HT1.out); clear hz0; have hz1 := fun o => (HZ1.out.cell (p := ⟨w.heap.size, o, none⟩) (by have := HW0.out; omega)).trans (HBX.out o); have hs1 : w.heap.size < w1.heap.size := Nat.lt_of_lt_of_le HW0.out HZ1.out.size)
    | ((with_reducible refine (flatRows_au x.au x.uA x.uC _ w.heap.size A1 c1 l1 HO1.out (room3 (room2 HL.out HL1.out)) (Nat.le_of_lt hs1) w.heap.size (HRC.out.aus.below (HB0.out.trans (HZ1.out.mono (by have := HW0.out; omega))) (Nat.le_refl _)) (Nat.le_refl _)).mono ?_); rintro e w2 ⟨l2, A2, c2, HL2, rfl, HO2, HS2⟩; have HT2 : Hid (Step w0 w2 none A2) := Lib.hid (HT1.out.trans HS2.out); have HZ2 := Lib.hid (none_low HT2.out); clear hz1; have hz2 := fun o => (HZ2.out.cell (p := ⟨w.heap.size, o, none⟩) (by have := HW0.out; omega)).trans (HBX.out o); have hs2 : w.heap.size < w2.heap.size := Nat.lt_of_lt_of_le HW0.out HZ2.out.size)
    | ((with_reducible refine (flatRows_fo x.fo x.fA x.fC _ w.heap.size A2 c2 l2 HO2.out (room3 (room2 (room2 HL.out HL1.out) HL2.out)) (Nat.le_of_lt hs2) w.heap.size (HRC.out.fos.below (HB0.out.trans (HZ2.out.mono (by have := HW0.out; omega))) (Nat.le_refl _)) (Nat.le_refl _) (fun q hq => (HRC.out.scrs q hq).below (HB0.out.trans (HZ2.out.mono (by have := HW0.out; omega))) (Nat.le_refl _)) (fun q hq => (HRC.out.hors q hq).below (HB0.out.trans (HZ2.out.mono (by have := HW0.out; omega))) (Nat.le_refl _))).mono ?_); rintro e w3 ⟨l3, A3, c3, HL3, rfl, HO3, HS3⟩; have HT3 : Hid (Step w0 w3 none A3) := Lib.hid (HT2.out.trans HS3.out); have HZ3 := Lib.hid (none_low HT3.out); clear hz2; have hz3 := fun o => (HZ3.out.cell (p := ⟨w.heap.size, o, none⟩) (by have := HW0.out; omega)).trans (HBX.out o); have hs3 : w.heap.size < w3.heap.size := Nat.lt_of_lt_of_le HW0.out HZ3.out.size)
    | ((with_reducible refine (flatGrid_any x.W x.H x.gA x.wl x.gC _ w.heap.size A3 c3 l3 HO3.out (room3 (room2 (room2 (room2 HL.out HL1.out) HL2.out) HL3.out)) (Nat.le_of_lt hs3) w.heap.size (HRC.out.wls.below (HB0.out.trans (HZ3.out.mono (by have := HW0.out; omega))) (Nat.le_refl _)) (Nat.le_refl _)).mono ?_); rintro e w4 ⟨l4, A4, c4, HL4, rfl, HO4, HS4⟩; have HT4 : Hid (Step w0 w4 none A4) := Lib.hid (HT3.out.trans HS4.out); have HZ4 := Lib.hid (none_low HT4.out); clear hz3; have hz4 := fun o => (HZ4.out.cell (p := ⟨w.heap.size, o, none⟩) (by have := HW0.out; omega)).trans (HBX.out o); have hs4 : w.heap.size < w4.heap.size := Nat.lt_of_lt_of_le HW0.out HZ4.out.size)
    | ((with_reducible refine (flatPos_any x.dx x.dy _ w.heap.size A4 c4 l4 HO4.out (room3 (room2 (room2 (room2 (room2 HL.out HL1.out) HL2.out) HL3.out) HL4.out)) (Nat.le_of_lt hs4)).mono ?_); rintro e w5 ⟨l5, A5, c5, HL5, rfl, HO5, HS5⟩; have HT5 : Hid (Step w0 w5 none A5) := Lib.hid (HT4.out.trans HS5.out); have HZ5 := Lib.hid (none_low HT5.out); clear hz4; have hz5 := fun o => (HZ5.out.cell (p := ⟨w.heap.size, o, none⟩) (by have := HW0.out; omega)).trans (HBX.out o); have hs5 : w.heap.size < w5.heap.size := Nat.lt_of_lt_of_le HW0.out HZ5.out.size)
    | ((with_reducible refine (flatPos_any x.lx x.ly _ w.heap.size A5 c5 l5 HO5.out (room2 (room2 (room2 (room2 (room2 HL.out HL1.out) HL2.out) HL3.out) HL4.out) HL5.out) (Nat.le_of_lt hs5)).mono ?_); rintro e w6 ⟨l6, A6, c6, HL6, rfl, HO6, HS6⟩; have HT6 : Hid (Step w0 w6 none A6) := Lib.hid (HT5.out.trans HS6.out); have HZ6 := Lib.hid (none_low HT6.out); clear hz5; have hz6 := fun o => (HZ6.out.cell (p := ⟨w.heap.size, o, none⟩) (by have := HW0.out; omega)).trans (HBX.out o); have hs6 : w.heap.size < w6.heap.size := Nat.lt_of_lt_of_le HW0.out HZ6.out.size))
  go_ret
  exact ⟨l6, A6, c6, Lib.hid (by rw [HL6.out, HL5.out, HL4.out, HL3.out, HL2.out, HL1.out]; simp [fCn]), rfl, HO6, Lib.hid (HB0.out.trans (HZ6.out.mono (Nat.le_of_lt HW0.out)))⟩
end Go.Proofs.YtpjenkgimkndaaaGreat.Con
