/-
  Contract of the document's Copy: alike, in new memory.
-/
import Derived.Test.YtpjenkgimkndaaaGreatAwr
import Derived.Test.YtpjenkgimkndaaaGreatCpy
import Derived.Deep.RegionHeld3
import Derived.Deep.LoopGhost
namespace Go.Proofs.YtpjenkgimkndaaaGreat.Con.Rc
open Go.RowKit Go.Maps

theorem ten0 (V : World) (p : Nat) (v0 v1 v2 v3 v4 v5 v6 v7 v8 v9 : Value) : (((((((((V.setCell ⟨p, 0, none⟩ v0).setCell ⟨p, 1, none⟩ v1).setCell ⟨p, 2, none⟩ v2).setCell ⟨p, 3, none⟩ v3).setCell ⟨p, 4, none⟩ v4).setCell ⟨p, 5, none⟩ v5).setCell ⟨p, 6, none⟩ v6).setCell ⟨p, 7, none⟩ v7).setCell ⟨p, 8, none⟩ v8).setCell ⟨p, 9, none⟩ v9 = V.setCells p 0 [v0, v1, v2, v3, v4, v5, v6, v7, v8, v9] := rfl
theorem put10 {w : World} {P : Nat} {u0 u1 u2 u3 u4 u5 u6 u7 u8 u9 : Value} {t : TypeId} (h : w.heap[P]? = some (.cells #[u0, u1, u2, u3, u4, u5, u6, u7, u8, u9] t (0, 0))) (v0 v1 v2 v3 v4 v5 v6 v7 v8 v9 : Value) :
    (w.setCells P 0 [v0, v1, v2, v3, v4, v5, v6, v7, v8, v9]).heap[P]? = some (.cells #[v0, v1, v2, v3, v4, v5, v6, v7, v8, v9] t (0, 0)) := by
  have h0 := heap_setCell_same _ P 0 _ t v0 h
  have h1 := heap_setCell_same _ P 1 _ t v1 h0
  have h2 := heap_setCell_same _ P 2 _ t v2 h1
  have h3 := heap_setCell_same _ P 3 _ t v3 h2
  have h4 := heap_setCell_same _ P 4 _ t v4 h3
  have h5 := heap_setCell_same _ P 5 _ t v5 h4
  have h6 := heap_setCell_same _ P 6 _ t v6 h5
  have h7 := heap_setCell_same _ P 7 _ t v7 h6
  have h8 := heap_setCell_same _ P 8 _ t v8 h7
  have h9 := heap_setCell_same _ P 9 _ t v9 h8
  simpa [World.setCells] using h9
theorem lt_heap {w : World} {b : Nat} {x : Obj} (h : w.heap[b]? = some x) : b < w.heap.size := (Array.getElem?_eq_some_iff.1 h).1
theorem cellOf {w : World} {b : Nat} {cs : Array Value} {t : TypeId} (h : w.heap[b]? = some (.cells cs t (0, 0))) (o : Nat) : w.cell? ⟨b, o, none⟩ = cs[o]? := by simp [World.cell?, h]
theorem frozOf {w : World} {b : Nat} {cs : Array Value} {t : TypeId} (h : w.heap[b]? = some (.cells cs t (0, 0))) (o : Nat) : w.frozen? ⟨b, o, none⟩ = false := by simp [World.frozen?, h]
theorem at_heap {w : World} {b : Nat} {cs : Array Value} {t : TypeId} (h : w.heap[b]? = some (.cells cs t (0, 0))) : At w b cs.toList := fun j v hv => by rw [cellOf h]; simpa using hv
theorem Kp.setC {w : World} {av : Nat → Prop} {P : Nat} (hP : av P) (o : Nat) (vs : List Value) : Kp w (w.setCells P o vs) av := by
  refine ⟨by rw [size_setCells]; exact Nat.le_refl _, fun k hk hn => ?_⟩
  have hne : k ≠ P := fun e => hn (e ▸ hP)
  clear hk
  induction vs generalizing o w with
  | nil => rfl
  | cons v r ih =>
    rw [World.setCells, ih]
    exact heap_setCell_other _ _ _ _ (by simpa using hne)
theorem Kp.below {w w' : World} {av : Nat → Prop} (h : Below w.heap.size w w') : Kp w w' av := ⟨h.size, fun k hk _ => h.block k hk⟩
/-- The rows of one of abilities, of foes. -/
def FrA (x : Ab) (w : World) (av : Nat → Prop) : Prop := AW ef w av x.ea x.eff
def FrF (x : Fo) (w : World) (av : Nat → Prop) : Prop := AW ln w av x.sa x.script ∧ AW pz w av x.ha x.hoard
def F1 (A1 : Option Addr) (la : List Au) (A5 : Option Addr) (lb : List Bool) (l : List Ab) (w : World) (av : Nat → Prop) : Prop := AW au w av A1 la ∧ AW bo w av A5 lb ∧ ∀ a ∈ l, FrA a w av
def F2 (A0 : Option Addr) (l0 : List Ab) (A1 : Option Addr) (la : List Au) (A5 : Option Addr) (lb : List Bool) (l : List Fo) (w : World) (av : Nat → Prop) : Prop := AW ab w av A0 l0 ∧ F1 A1 la A5 lb l0 w av ∧ ∀ f ∈ l, FrF f w av
theorem frA_stab : Stab FrA := fun _ _ _ _ _ h hk ha => AW.kp h hk ha
theorem frF_stab : Stab FrF := fun _ _ _ _ _ h hk ha => ⟨h.1.kp hk ha, h.2.kp hk ha⟩
theorem f1_stab (A1 : Option Addr) (la : List Au) (A5 : Option Addr) (lb : List Bool) : Stab (F1 A1 la A5 lb) := fun _ _ _ _ _ h hk ha => ⟨h.1.kp hk ha, h.2.1.kp hk ha, fun a hm => frA_stab _ _ _ _ _ (h.2.2 a hm) hk ha⟩
theorem f2_stab (A0 : Option Addr) (l0 : List Ab) (A1 : Option Addr) (la : List Au) (A5 : Option Addr) (lb : List Bool) : Stab (F2 A0 l0 A1 la A5 lb) := fun _ _ _ _ _ h hk ha => ⟨h.1.kp hk ha, f1_stab _ _ _ _ _ _ _ _ _ h.2.1 hk ha, fun a hm => frF_stab _ _ _ _ _ (h.2.2 a hm) hk ha⟩
theorem f1_add {A1 : Option Addr} {la : List Au} {A5 : Option Addr} {lb : List Bool} (l : List Ab) (x : Ab) (w : World) (av : Nat → Prop) (h : F1 A1 la A5 lb l w av) (hx : FrA x w av) : F1 A1 la A5 lb (l ++ [x]) w av :=
  ⟨h.1, h.2.1, fun a ha => by rcases List.mem_append.1 ha with ha | ha; exact h.2.2 a ha; rw [List.mem_singleton.1 ha]; exact hx⟩
theorem f2_add {A0 : Option Addr} {l0 : List Ab} {A1 : Option Addr} {la : List Au} {A5 : Option Addr} {lb : List Bool} (l : List Fo) (x : Fo) (w : World) (av : Nat → Prop) (h : F2 A0 l0 A1 la A5 lb l w av) (hx : FrF x w av) : F2 A0 l0 A1 la A5 lb (l ++ [x]) w av :=
  ⟨h.1, h.2.1, fun a ha => by rcases List.mem_append.1 ha with ha | ha; exact h.2.2 a ha; rw [List.mem_singleton.1 ha]; exact hx⟩
abbrev cs1 (c : Cn) (A1 : Option Addr) (c1 : Nat) (A5 : Option Addr) (c5 : Nat) (v : Value) : List Value := [v, .slice A1 c.au.length c1, .slice none 0 0, .int .i64 c.W, .int .i64 c.H, .slice A5 c.wl.length c5, .int .i64 c.dx, .int .i64 c.dy, .int .i64 c.lx, .int .i64 c.ly]
abbrev cs2 (c : Cn) (A0 : Option Addr) (n0 c0 : Nat) (A1 : Option Addr) (c1 : Nat) (A5 : Option Addr) (c5 : Nat) (v : Value) : List Value := [.slice A0 n0 c0, .slice A1 c.au.length c1, v, .int .i64 c.W, .int .i64 c.H, .slice A5 c.wl.length c5, .int .i64 c.dx, .int .i64 c.dy, .int .i64 c.lx, .int .i64 c.ly]
theorem cs1_far (c : Cn) (A1 : Option Addr) (c1 : Nat) (A5 : Option Addr) (c5 : Nat) (u v : Value) (j : Nat) (hj : j ≠ 0) : (cs1 c A1 c1 A5 c5 v)[j]? = (cs1 c A1 c1 A5 c5 u)[j]? := by
  cases j with
  | zero => exact absurd rfl hj
  | succ j => rfl
theorem cs2_far (c : Cn) (A0 : Option Addr) (n0 c0 : Nat) (A1 : Option Addr) (c1 : Nat) (A5 : Option Addr) (c5 : Nat) (u v : Value) (j : Nat) (hj : j ≠ 2) : (cs2 c A0 n0 c0 A1 c1 A5 c5 v)[j]? = (cs2 c A0 n0 c0 A1 c1 A5 c5 u)[j]? := by
  match j, hj with
  | 0, _ => rfl
  | 1, _ => rfl
  | j + 3, _ => rfl
/-- A row of one, just laid. -/
theorem rw_one {α : Type} (E : El α) (w : World) (x : α) : RW E (w.alloc (.cells (E.enc x).toArray E.e)) (w.heap.size + 1) (some ⟨w.heap.size, 0, none⟩) [x] := by
  refine .inr ⟨w.heap.size, 0, rfl, by omega, fun i y hy j v hv => ?_⟩
  cases i with
  | zero =>
    simp at hy; subst hy
    rw [cellOf (heap_alloc_new w _)]
    simpa using hv
  | succ i => simp at hy
theorem take_step {α : Type} {l : List α} {k : Nat} {x : α} (h : l[k]? = some x) : l.take (k + 1) = l.take k ++ [x] := by rw [List.take_add_one, h]; rfl

theorem ownB {A : Option Addr} {n c k : Nat} (h : A.map Addr.block = some k) : (Value.slice A n c).ownBlock = some k := by
  cases A with
  | none => cases h
  | some a => exact h
theorem nxt9 {k : Nat} (h : (k : Int) ≤ 60000) : Value.int .i64 (wrap64 ((k : Int) + 1)) = .int .i64 ((k + 1 : Nat) : Int) := by
  rw [show wrap64 ((k : Int) + 1) = (k : Int) + 1 by unfold wrap64; omega]; rfl
set_option maxRecDepth 100000 in
set_option maxHeartbeats 32000000 in
theorem rcopy_c {w : World} {B : Nat} (c : Cn) (hr : RC w B c) (hB : B ≤ w.heap.size) (hs : Sm c) : Calls Tryz.prog 9 #[cnv c] w fun e w' => ∃ k : Cn, e = .returned (cnv k) ∧ Hid (k.pl = c.pl) ∧ Hid (RC w' w'.heap.size k) ∧ Below w.heap.size w w' := by
  have hX : Below w.heap.size w ((w.alloc (oCn c)).alloc zcCn) := by go_grown
  have HBox : Hid (∀ wz, Below ((w.alloc (oCn c)).alloc zcCn).heap.size ((w.alloc (oCn c)).alloc zcCn) wz → wz.cell? ⟨w.heap.size, 0, none⟩ = some (.slice c.aA c.ab.length c.aC) ∧ wz.cell? ⟨w.heap.size, 1, none⟩ = some (.slice c.uA c.au.length c.uC) ∧ wz.cell? ⟨w.heap.size, 2, none⟩ = some (.slice c.fA c.fo.length c.fC) ∧ wz.cell? ⟨w.heap.size, 3, none⟩ = some (.int .i64 c.W) ∧ wz.cell? ⟨w.heap.size, 4, none⟩ = some (.int .i64 c.H) ∧ wz.cell? ⟨w.heap.size, 5, none⟩ = some (.slice c.gA c.wl.length c.gC) ∧ wz.cell? ⟨w.heap.size, 6, none⟩ = some (.int .i64 c.dx) ∧ wz.cell? ⟨w.heap.size, 7, none⟩ = some (.int .i64 c.dy) ∧ wz.cell? ⟨w.heap.size, 8, none⟩ = some (.int .i64 c.lx) ∧ wz.cell? ⟨w.heap.size, 9, none⟩ = some (.int .i64 c.ly)) := Lib.hid (fun wz hz => (((at_cn w c).of ((Below.refl _ _).alloc (Nat.le_refl _) zcCn) (by simp)).of hz (by simp; omega)).ten)
  have HRb : Hid (((w.alloc (oCn c)).alloc zcCn).heap[w.heap.size + 1]? = some zcCn) := Lib.hid (by have := heap_alloc_new (w.alloc (oCn c)) zcCn; simpa using this)
  have HR := Lib.hid (hr.below hX hB)
  have HBw := Lib.hid (Nat.le_trans hB hX.size)
  have HB0 := Lib.hid hX; have HSm := Lib.hid hs
  have HL : Hid (([] : List Au).length + c.au.length ≤ 1000000) := Lib.hid (by have := hs.aus; simp; omega)
  have HLb : Hid (([] : List Bool).length + c.wl.length ≤ 1000000) := Lib.hid (by have := hs.wls; simp; omega)
  clear hX hr hs
  go_enter Tryz.func9, Tryz.ntmps9
  go_wp2
  generalize (w.alloc (oCn c)).alloc zcCn = V at *
  have HAu : Hid (∀ v, Below V.heap.size V v → RW au v B c.uA c.au) := Lib.hid (fun v hv => HR.out.aus.below hv HBw.out)
  have HWb : Hid (∀ v, Below V.heap.size V v → RW bo v B c.gA c.wl) := Lib.hid (fun v hv => rb_rw (HR.out.wls.below hv HBw.out))
  refine Code.wp_mono (Q := fun e a' w' => ∃ g P A1 c1, e = .normal ∧ w'.heap[P]? = some (.cells #[.slice none 0 0, .slice A1 c.au.length c1, .slice none 0 0, .int .i64 c.W, .int .i64 c.H, .slice c.gA c.wl.length c.gC, .int .i64 c.dx, .int .i64 c.dy, .int .i64 c.lx, .int .i64 c.ly] 31) ∧ AW au w' (fun b => b = P ∨ b < V.heap.size) A1 c.au ∧ V.heap.size ≤ P ∧ Below V.heap.size V w' ∧ a' = ({ tmps := #[cnv c, .pointer (some ⟨w.heap.size, 0, none⟩), .pointer (some ⟨w.heap.size + 1, 0, none⟩), .pointer (some ⟨P, 0, none⟩), undef, undef, .slice (some ⟨g, 0, none⟩) 0 0, .pointer (some ⟨w.heap.size, 1, none⟩), .slice c.uA c.au.length c.uC, .slice A1 c.au.length c1, .pointer (some ⟨w.heap.size, 3, none⟩), gv c.W c.H c.gA c.wl.length c.gC, .pointer (some ⟨w.heap.size, 6, none⟩), pv c.dx c.dy, .pointer (some ⟨w.heap.size, 8, none⟩), pv c.lx c.ly, .agg #[.slice none 0 0, .slice A1 c.au.length c1, .slice none 0 0, .int .i64 c.W, .int .i64 c.H, .slice c.gA c.wl.length c.gC, .int .i64 c.dx, .int .i64 c.dy, .int .i64 c.lx, .int .i64 c.ly], undef, undef, undef, undef, undef, undef, undef, undef, undef, undef, undef, undef, undef, undef, undef, undef, undef, undef, undef, undef, undef, undef, undef, undef, undef, undef, undef, undef, undef, undef, undef, undef, undef, undef, undef, undef, undef, undef, undef, undef, undef, undef, undef, undef], defers := [] } : Act)) ?post1 ?reg1
  case reg1 =>
    have hS0 : Below V.heap.size V V.drew := (Below.refl _ _).drew
    refine wp_region_noPanic ?_
    refine wp_region_held_drew (S := fun w' => Below V.heap.size V w') (by kernel_rfl) hS0 (fun _ => ?_)
    generalize V.drew = v0 at hS0 ⊢
    refine wpAnyH_take (i := 1) (oi := ⟨some 7, Op.fieldAddr 31 (Operand.tmp 1) 1, 0, _, _, none⟩) (v := ?va1) rfl (by kernel_rfl) (by kernel_rfl) (by kernel_rfl) (fun _ _ _ h => h) (Or.inl ⟨by rfl, ?ha1⟩) hS0 ?ra1
    case ha1 => (intro wz hSw; go_simp <;> with_reducible rfl)
    (try simp only [Act.put, List.setIfInBounds_toArray, List.set_cons_zero, List.set_cons_succ])
    refine wpAnyH_take (i := 2) (oi := ⟨some 8, Op.load 23 (Operand.tmp 7), 23, _, _, none⟩) (v := ?va2) rfl (by kernel_rfl) (by kernel_rfl) (by kernel_rfl) (fun _ _ _ h => h) (Or.inl ⟨by rfl, ?ha2⟩) hS0 ?ra2
    case ha2 => (intro wz hSw; obtain ⟨d0, d1, d2, d3, d4, d5, d6, d7, d8, d9⟩ := HBox.out wz hSw; go_simp <;> with_reducible rfl)
    (try simp only [Act.put, List.setIfInBounds_toArray, List.set_cons_zero, List.set_cons_succ])
    refine wpAnyH_take (i := 4) (oi := ⟨some 10, Op.fieldAddr 31 (Operand.tmp 1) 3, 0, _, _, none⟩) (v := ?va4) rfl (by kernel_rfl) (by kernel_rfl) (by kernel_rfl) (fun _ _ _ h => h) (Or.inl ⟨by rfl, ?ha4⟩) hS0 ?ra4
    case ha4 => (intro wz hSw; go_simp <;> with_reducible rfl)
    (try simp only [Act.put, List.setIfInBounds_toArray, List.set_cons_zero, List.set_cons_succ])
    refine wpAnyH_take (i := 5) (oi := ⟨some 11, Op.load 27 (Operand.tmp 10), 27, _, _, none⟩) (v := ?va5) rfl (by kernel_rfl) (by kernel_rfl) (by kernel_rfl) (fun _ _ _ h => h) (Or.inl ⟨by rfl, ?ha5⟩) hS0 ?ra5
    case ha5 => (intro wz hSw; obtain ⟨d0, d1, d2, d3, d4, d5, d6, d7, d8, d9⟩ := HBox.out wz hSw; go_simp <;> with_reducible rfl)
    (try simp only [Act.put, List.setIfInBounds_toArray, List.set_cons_zero, List.set_cons_succ])
    refine wpAnyH_take (i := 6) (oi := ⟨some 12, Op.fieldAddr 31 (Operand.tmp 1) 4, 0, _, _, none⟩) (v := ?va6) rfl (by kernel_rfl) (by kernel_rfl) (by kernel_rfl) (fun _ _ _ h => h) (Or.inl ⟨by rfl, ?ha6⟩) hS0 ?ra6
    case ha6 => (intro wz hSw; go_simp <;> with_reducible rfl)
    (try simp only [Act.put, List.setIfInBounds_toArray, List.set_cons_zero, List.set_cons_succ])
    refine wpAnyH_take (i := 7) (oi := ⟨some 13, Op.load 29 (Operand.tmp 12), 29, _, _, none⟩) (v := ?va7) rfl (by kernel_rfl) (by kernel_rfl) (by kernel_rfl) (fun _ _ _ h => h) (Or.inl ⟨by rfl, ?ha7⟩) hS0 ?ra7
    case ha7 => (intro wz hSw; obtain ⟨d0, d1, d2, d3, d4, d5, d6, d7, d8, d9⟩ := HBox.out wz hSw; go_simp <;> with_reducible rfl)
    (try simp only [Act.put, List.setIfInBounds_toArray, List.set_cons_zero, List.set_cons_succ])
    refine wpAnyH_take (i := 8) (oi := ⟨some 14, Op.fieldAddr 31 (Operand.tmp 1) 5, 0, _, _, none⟩) (v := ?va8) rfl (by kernel_rfl) (by kernel_rfl) (by kernel_rfl) (fun _ _ _ h => h) (Or.inl ⟨by rfl, ?ha8⟩) hS0 ?ra8
    case ha8 => (intro wz hSw; go_simp <;> with_reducible rfl)
    (try simp only [Act.put, List.setIfInBounds_toArray, List.set_cons_zero, List.set_cons_succ])
    refine wpAnyH_take (i := 9) (oi := ⟨some 15, Op.load 29 (Operand.tmp 14), 29, _, _, none⟩) (v := ?va9) rfl (by kernel_rfl) (by kernel_rfl) (by kernel_rfl) (fun _ _ _ h => h) (Or.inl ⟨by rfl, ?ha9⟩) hS0 ?ra9
    case ha9 => (intro wz hSw; obtain ⟨d0, d1, d2, d3, d4, d5, d6, d7, d8, d9⟩ := HBox.out wz hSw; go_simp <;> with_reducible rfl)
    (try simp only [Act.put, List.setIfInBounds_toArray, List.set_cons_zero, List.set_cons_succ])
    refine wpAnyH_ready (rs := [0, 11]) (by kernel_rfl) (by simp) ?_
    refine AllReadyH.cons (o := ⟨some 6, Op.buildSlice 23 0 #[], 23, _, _, none⟩) rfl (fun K hK => ?_) (AllReadyH.cons (o := ⟨some 3, Op.alloc 31, 0, _, _, none⟩) rfl (fun K hK => ?_) AllReadyH.nil)
    · go_simp
      have hO1 : OW au (v0.alloc (.cells #[] 63)) v0.heap.size (.slice (some ⟨v0.heap.size, 0, none⟩) 0 0) [] := OW.room au v0; have hge1 := hS0.size; have hlg : v0.heap.size < (v0.alloc (.cells #[] 63)).heap.size := (by simp); have hS1 := hS0.alloc hS0.size (.cells #[] 63); generalize hg : v0.heap.size = g at hO1 hge1 hlg ⊢; generalize hV : v0.alloc (.cells #[] 63) = v1 at hO1 hlg hS1 ⊢; clear hg hV
      refine hK.out _ _ hS1 (fun _ => ?_)
      clear hK K
      (try simp only [Act.put, List.setIfInBounds_toArray, List.set_cons_zero, List.set_cons_succ])
      refine wpAnyH_ready (rs := [3, 11]) (by kernel_rfl) (by simp) ?_
      refine AllReadyH.cons (o := ⟨some 9, Op.call { callee := Callee.builtin Builtin.append, args := #[Operand.tmp 6, Operand.tmp 8], argTypes := #[23, 23] }, 23, _, _, none⟩) rfl (fun K hK => ?_) (AllReadyH.cons (o := ⟨some 3, Op.alloc 31, 0, _, _, none⟩) rfl (fun K hK => ?_) AllReadyH.nil)
      · refine step_app au rfl 23 rfl (.tmp 6) (.tmp 8) rfl V.heap.size B (.slice (some ⟨g, 0, none⟩) 0 0) [] c.au c.uA c.uC c.au.length rfl (by simp [Act.eval]) (by simp [Act.eval]) (hO1.mono hge1) (HAu.out _ hS1) HL.out hS1.size ?_
        intro A1 c1 v2 lm nl hlm hnl hR hG hW; have h9 : lm = c.au := (by simpa using hlm); subst h9; subst hnl; have hS2 : Below V.heap.size V v2 := hS1.grown hG hS1.size (fun b hb => by simp [Value.ownBlock] at hb; omega); clear hG hW hlm
        refine hK.out _ _ hS2 (fun _ => ?_)
        clear hK K
        (try simp only [Act.put, List.setIfInBounds_toArray, List.set_cons_zero, List.set_cons_succ])
        refine wpAnyH_take (i := 10) (oi := ⟨some 16, Op.build 31 #[(1, Operand.tmp 9), (3, Operand.tmp 11), (4, Operand.tmp 13), (5, Operand.tmp 15)], 31, _, _, none⟩) (v := ?vab0b310) rfl (by kernel_rfl) (by kernel_rfl) (by kernel_rfl) (fun _ _ _ h => h) (Or.inl ⟨by rfl, ?hab0b310⟩) hS2 ?rab0b310
        case hab0b310 => (intro wz hSw; go_simp <;> with_reducible rfl)
        (try simp only [Act.put, List.setIfInBounds_toArray, List.set_cons_zero, List.set_cons_succ])
        refine wpAnyH_ready (rs := [11]) (by kernel_rfl) (by simp) ?_
        refine AllReadyH.cons (o := ⟨some 3, Op.alloc 31, 0, _, _, none⟩) rfl (fun K hK => ?_) AllReadyH.nil
        go_simp
        have hZ3 := heap_alloc_new v2 zcCn; have hPge := hS2.size; have hS3 := hS2.alloc hS2.size zcCn; have hne1 : ∀ b, (Value.slice A1 c.au.length c1).ownBlock = some b → b ≠ v2.heap.size := (fun b hb => Nat.ne_of_lt (hR.blk hb).2.1); have hR3 := hR.of ((Below.refl _ v2).alloc (Nat.le_refl _) zcCn); generalize hP : v2.heap.size = P at hZ3 hPge hne1 ⊢; generalize hV : v2.alloc zcCn = v3 at hZ3 hS3 hR3 ⊢; clear hP hV
        refine hK.out _ _ hS3 (fun _ => ?_)
        clear hK K
        (try simp only [Act.put, List.setIfInBounds_toArray, List.set_cons_zero, List.set_cons_succ])
        refine wpAnyH_ready (rs := [12]) (by kernel_rfl) (by simp) ?_
        refine AllReadyH.cons (o := ⟨none, Op.store 31 (Operand.tmp 3) (Operand.tmp 16), 0, _, _, none⟩) rfl (fun K hK => ?_) AllReadyH.nil
        have z := cellOf hZ3; have y := frozOf hZ3
        go_simp
        rw [ten0]; have hPZ := put10 hZ3 (.slice none 0 0) (.slice A1 c.au.length c1) (.slice none 0 0) (.int .i64 c.W) (.int .i64 c.H) (.slice c.gA c.wl.length c.gC) (.int .i64 c.dx) (.int .i64 c.dy) (.int .i64 c.lx) (.int .i64 c.ly); have hS4 := below_setCells P hPge [.slice none 0 0, .slice A1 c.au.length c1, .slice none 0 0, .int .i64 c.W, .int .i64 c.H, .slice c.gA c.wl.length c.gC, .int .i64 c.dx, .int .i64 c.dy, .int .i64 c.lx, .int .i64 c.ly] 0 v3 hS3; have hRF := hR3.pw; clear z y
        refine hK.out _ _ hS4 (fun _ => ?_)
        clear hK K
        (try simp only [Act.put, List.setIfInBounds_toArray, List.set_cons_zero, List.set_cons_succ])
        refine wpAnyH_done (by kernel_rfl) ?_ _
        refine NoPanic.normal ?_
        refine ⟨_, P, A1, c1, rfl, hPZ, ?_, hPge, hS4, rfl⟩
        exact (AW.kp (av := fun b => b = P ∨ b < V.heap.size) (hRF.aw (fun k hk hks hA h => by rcases h with rfl | h; (exact hne1 _ (ownB hA) rfl); omega)) (Kp.setC (.inl rfl) 0 _) (fun _ _ h => h))
      · go_simp
        have hZ5 := heap_alloc_new v1 zcCn; have hPge := hS1.size; have hS5 := hS1.alloc hS1.size zcCn; have hne : g ≠ v1.heap.size := Nat.ne_of_lt hlg; have hO5 := hO1.of ((Below.refl _ v1).alloc (Nat.le_refl _) zcCn); generalize hP : v1.heap.size = P at hZ5 hPge hne ⊢; generalize hV : v1.alloc zcCn = v5 at hZ5 hS5 hO5 ⊢; clear hP hV
        refine hK.out _ _ hS5 (fun _ => ?_)
        clear hK K
        (try simp only [Act.put, List.setIfInBounds_toArray, List.set_cons_zero, List.set_cons_succ])
        refine wpAnyH_ready (rs := [3]) (by kernel_rfl) (by simp) ?_
        refine AllReadyH.cons (o := ⟨some 9, Op.call { callee := Callee.builtin Builtin.append, args := #[Operand.tmp 6, Operand.tmp 8], argTypes := #[23, 23] }, 23, _, _, none⟩) rfl (fun K hK => ?_) AllReadyH.nil
        refine step_app au rfl 23 rfl (.tmp 6) (.tmp 8) rfl V.heap.size B (.slice (some ⟨g, 0, none⟩) 0 0) [] c.au c.uA c.uC c.au.length rfl (by simp [Act.eval]) (by simp [Act.eval]) (hO5.mono hge1) (HAu.out _ hS5) HL.out hS5.size ?_
        intro A1 c1 v6 lm nl hlm hnl hR hG hW; have h9 : lm = c.au := (by simpa using hlm); subst h9; subst hnl; have hS6 : Below V.heap.size V v6 := hS5.grown hG hS5.size (fun b hb => by simp [Value.ownBlock] at hb; omega); have hZ6 := (hG.block P (lt_heap hZ5) (fun e => by simp [Value.ownBlock] at e; exact hne (by omega))).trans hZ5; have hne1 : ∀ b, (Value.slice A1 c.au.length c1).ownBlock = some b → b ≠ P := (fun b hb => by rcases hW with e | e; (rw [e] at hb; simp [Value.ownBlock] at hb; omega); (rw [e] at hb; injection hb with hb; have := lt_heap hZ5; omega)); clear hG hW hlm
        refine hK.out _ _ hS6 (fun _ => ?_)
        clear hK K
        (try simp only [Act.put, List.setIfInBounds_toArray, List.set_cons_zero, List.set_cons_succ])
        refine wpAnyH_take (i := 10) (oi := ⟨some 16, Op.build 31 #[(1, Operand.tmp 9), (3, Operand.tmp 11), (4, Operand.tmp 13), (5, Operand.tmp 15)], 31, _, _, none⟩) (v := ?vab0b1110) rfl (by kernel_rfl) (by kernel_rfl) (by kernel_rfl) (fun _ _ _ h => h) (Or.inl ⟨by rfl, ?hab0b1110⟩) hS6 ?rab0b1110
        case hab0b1110 => (intro wz hSw; go_simp <;> with_reducible rfl)
        (try simp only [Act.put, List.setIfInBounds_toArray, List.set_cons_zero, List.set_cons_succ])
        refine wpAnyH_ready (rs := [12]) (by kernel_rfl) (by simp) ?_
        refine AllReadyH.cons (o := ⟨none, Op.store 31 (Operand.tmp 3) (Operand.tmp 16), 0, _, _, none⟩) rfl (fun K hK => ?_) AllReadyH.nil
        have z := cellOf hZ6; have y := frozOf hZ6
        go_simp
        rw [ten0]; have hPZ := put10 hZ6 (.slice none 0 0) (.slice A1 c.au.length c1) (.slice none 0 0) (.int .i64 c.W) (.int .i64 c.H) (.slice c.gA c.wl.length c.gC) (.int .i64 c.dx) (.int .i64 c.dy) (.int .i64 c.lx) (.int .i64 c.ly); have hS7 := below_setCells P hPge [.slice none 0 0, .slice A1 c.au.length c1, .slice none 0 0, .int .i64 c.W, .int .i64 c.H, .slice c.gA c.wl.length c.gC, .int .i64 c.dx, .int .i64 c.dy, .int .i64 c.lx, .int .i64 c.ly] 0 v6 hS6; have hRF := hR.pw; clear z y
        refine hK.out _ _ hS7 (fun _ => ?_)
        clear hK K
        (try simp only [Act.put, List.setIfInBounds_toArray, List.set_cons_zero, List.set_cons_succ])
        refine wpAnyH_done (by kernel_rfl) ?_ _
        refine NoPanic.normal ?_
        refine ⟨_, P, A1, c1, rfl, hPZ, ?_, hPge, hS7, rfl⟩
        exact (AW.kp (av := fun b => b = P ∨ b < V.heap.size) (hRF.aw (fun k hk hks hA h => by rcases h with rfl | h; (exact hne1 _ (ownB hA) rfl); omega)) (Kp.setC (.inl rfl) 0 _) (fun _ _ h => h))
    · go_simp
      have hZ8 := heap_alloc_new v0 zcCn; have hPge := hS0.size; have hS8 := hS0.alloc hS0.size zcCn; generalize hP : v0.heap.size = P at hZ8 hPge ⊢; generalize hV : v0.alloc zcCn = v8 at hZ8 hS8 ⊢; clear hP hV
      refine hK.out _ _ hS8 (fun _ => ?_)
      clear hK K
      (try simp only [Act.put, List.setIfInBounds_toArray, List.set_cons_zero, List.set_cons_succ])
      refine wpAnyH_ready (rs := [0]) (by kernel_rfl) (by simp) ?_
      refine AllReadyH.cons (o := ⟨some 6, Op.buildSlice 23 0 #[], 23, _, _, none⟩) rfl (fun K hK => ?_) AllReadyH.nil
      go_simp
      have hO9 : OW au (v8.alloc (.cells #[] 63)) v8.heap.size (.slice (some ⟨v8.heap.size, 0, none⟩) 0 0) [] := OW.room au v8; have hge9 := hS8.size; have hlg : v8.heap.size < (v8.alloc (.cells #[] 63)).heap.size := (by simp); have hS9 := hS8.alloc hS8.size (.cells #[] 63); have hne : v8.heap.size ≠ P := Nat.ne_of_gt (lt_heap hZ8); have hZ9 := (Below.heap_alloc v8 (.cells #[] 63) _ (lt_heap hZ8)).trans hZ8; generalize hg : v8.heap.size = g at hO9 hge9 hlg hne ⊢; generalize hV : v8.alloc (.cells #[] 63) = v9 at hO9 hlg hS9 hZ9 ⊢; clear hg hV
      refine hK.out _ _ hS9 (fun _ => ?_)
      clear hK K
      (try simp only [Act.put, List.setIfInBounds_toArray, List.set_cons_zero, List.set_cons_succ])
      refine wpAnyH_ready (rs := [3]) (by kernel_rfl) (by simp) ?_
      refine AllReadyH.cons (o := ⟨some 9, Op.call { callee := Callee.builtin Builtin.append, args := #[Operand.tmp 6, Operand.tmp 8], argTypes := #[23, 23] }, 23, _, _, none⟩) rfl (fun K hK => ?_) AllReadyH.nil
      refine step_app au rfl 23 rfl (.tmp 6) (.tmp 8) rfl V.heap.size B (.slice (some ⟨g, 0, none⟩) 0 0) [] c.au c.uA c.uC c.au.length rfl (by simp [Act.eval]) (by simp [Act.eval]) (hO9.mono hge9) (HAu.out _ hS9) HL.out hS9.size ?_
      intro A1 c1 v10 lm nl hlm hnl hR hG hW; have h9 : lm = c.au := (by simpa using hlm); subst h9; subst hnl; have hS10 : Below V.heap.size V v10 := hS9.grown hG hS9.size (fun b hb => by simp [Value.ownBlock] at hb; omega); have hZ10 := (hG.block P (lt_heap hZ9) (fun e => by simp [Value.ownBlock] at e; exact hne (by omega))).trans hZ9; have hne1 : ∀ b, (Value.slice A1 c.au.length c1).ownBlock = some b → b ≠ P := (fun b hb => by rcases hW with e | e; (rw [e] at hb; simp [Value.ownBlock] at hb; omega); (rw [e] at hb; injection hb with hb; have := lt_heap hZ9; omega)); clear hG hW hlm
      refine hK.out _ _ hS10 (fun _ => ?_)
      clear hK K
      (try simp only [Act.put, List.setIfInBounds_toArray, List.set_cons_zero, List.set_cons_succ])
      refine wpAnyH_take (i := 10) (oi := ⟨some 16, Op.build 31 #[(1, Operand.tmp 9), (3, Operand.tmp 11), (4, Operand.tmp 13), (5, Operand.tmp 15)], 31, _, _, none⟩) (v := ?vab1110) rfl (by kernel_rfl) (by kernel_rfl) (by kernel_rfl) (fun _ _ _ h => h) (Or.inl ⟨by rfl, ?hab1110⟩) hS10 ?rab1110
      case hab1110 => (intro wz hSw; go_simp <;> with_reducible rfl)
      (try simp only [Act.put, List.setIfInBounds_toArray, List.set_cons_zero, List.set_cons_succ])
      refine wpAnyH_ready (rs := [12]) (by kernel_rfl) (by simp) ?_
      refine AllReadyH.cons (o := ⟨none, Op.store 31 (Operand.tmp 3) (Operand.tmp 16), 0, _, _, none⟩) rfl (fun K hK => ?_) AllReadyH.nil
      have z := cellOf hZ10; have y := frozOf hZ10
      go_simp
      rw [ten0]; have hPZ := put10 hZ10 (.slice none 0 0) (.slice A1 c.au.length c1) (.slice none 0 0) (.int .i64 c.W) (.int .i64 c.H) (.slice c.gA c.wl.length c.gC) (.int .i64 c.dx) (.int .i64 c.dy) (.int .i64 c.lx) (.int .i64 c.ly); have hS11 := below_setCells P hPge [.slice none 0 0, .slice A1 c.au.length c1, .slice none 0 0, .int .i64 c.W, .int .i64 c.H, .slice c.gA c.wl.length c.gC, .int .i64 c.dx, .int .i64 c.dy, .int .i64 c.lx, .int .i64 c.ly] 0 v10 hS10; have hRF := hR.pw; clear z y
      refine hK.out _ _ hS11 (fun _ => ?_)
      clear hK K
      (try simp only [Act.put, List.setIfInBounds_toArray, List.set_cons_zero, List.set_cons_succ])
      refine wpAnyH_done (by kernel_rfl) ?_ _
      refine NoPanic.normal ?_
      refine ⟨_, P, A1, c1, rfl, hPZ, ?_, hPge, hS11, rfl⟩
      exact (AW.kp (av := fun b => b = P ∨ b < V.heap.size) (hRF.aw (fun k hk hks hA h => by rcases h with rfl | h; (exact hne1 _ (ownB hA) rfl); omega)) (Kp.setC (.inl rfl) 0 _) (fun _ _ h => h))
  case post1 =>
    rintro e a' w1 ⟨g, P, A1, c1, rfl, hBX, hAu, hPge, hB1, rfl⟩
    dsimp only
    have HPge := Lib.hid hPge; have HB1 := Lib.hid hB1; have HAu1 := Lib.hid hAu; have HBX := Lib.hid hBX
    obtain ⟨d0, d1, d2, d3, d4, d5, d6, d7, d8, d9⟩ := HBox.out w1 hB1
    have hsw : w.heap.size < w1.heap.size := by have h1 := lt_heap HRb.out; have h2 := HB1.out.size; omega
    have hsP := lt_heap HBX.out
    have HO0 : Hid (OW bo (w1.alloc (.cells #[] 4)) w1.heap.size (.slice (some ⟨w1.heap.size, 0, none⟩) 0 0) []) := Lib.hid (OW.room bo w1)
    have HBg := Lib.hid ((Below.refl _ w1).alloc (Nat.le_refl _) (.cells #[] 4))
    clear hBX hAu hPge hB1
    go_wp2_with (at_builtin; refine wpList_app bo rfl 25 rfl (.tmp 17) (.tmp 20) rfl w1.heap.size B (.slice (some ⟨w1.heap.size, 0, none⟩) 0 0) [] c.wl c.gA c.gC c.wl.length rfl rfl rfl HO0.out (HWb.out _ (HB1.out.alloc HB1.out.size _)) HLb.out (by simp) ?_; intro A5 c5 w2 lm HLM HO2 HS2 HW2; have hl2 : lm = c.wl := (by have := HLM.out; simpa using this); subst hl2; have hG : Below w1.heap.size w1 w2 := HBg.out.grown HS2.out HBg.out.size (fun b hb => by simp [Value.ownBlock] at hb; omega); have HG := Lib.hid hG; have hP2 := (hG.block _ (lt_heap HBX.out)).trans HBX.out; have z2 := cellOf hP2; have y2 := frozOf hP2; clear hG)
    have HP2 := Lib.hid hP2
    have HB2 : Hid (Below V.heap.size V (w2.setCell ⟨P, 5, none⟩ (.slice A5 c.wl.length c5))) := Lib.hid ((HB1.out.trans (HG.out.mono HB1.out.size)).setCell HPge.out _)
    have HL1 : Hid (LX ab (F1 A1 c.au A5 c.wl) V.heap.size P (cs1 c A1 c1 A5 c5) (w2.setCell ⟨P, 5, none⟩ (.slice A5 c.wl.length c5)) none 0 []) := Lib.hid (by
      have hp9 := heap_setCell_same w2 P 5 _ 31 (.slice A5 c.wl.length c5) HP2.out
      have hkp : Kp w2 (w2.setCell ⟨P, 5, none⟩ (.slice A5 c.wl.length c5)) (Av V.heap.size P (.slice none 0 0)) := Kp.setC (P := P) (.inr (.inl rfl)) 5 [.slice A5 c.wl.length c5]
      refine ⟨HPge.out, lt_heap hp9, at_heap hp9, frozOf hp9, OW.nil ab _ _, fun b hb => (by cases hb), ⟨?_, ?_, fun a ha => (by cases ha)⟩⟩
      · exact AW.kp (AW.kp HAu1.out (Kp.below HG.out) (fun k _ h => by rcases h with h | h | h; exact .inr h; exact .inl h; cases h)) hkp (fun _ _ h => h)
      · refine AW.kp (HO2.out.pw.aw (fun k hk _ _ h => ?_)) hkp (fun _ _ h => h)
        have h1 := lt_heap HBX.out; have h2 := HB1.out.size
        rcases h with h | h | h
        · omega
        · omega
        · cases h)
    clear hP2 z2 y2 hsw hsP d0 d1 d2 d3 d4 d5 d6 d7 d8 d9
    generalize w2.setCell ⟨P, 5, none⟩ (.slice A5 c.wl.length c5) = w3 at *
    go_loopg [4] c.ab.length (fun m s4 wr => ∃ (k : Nat) (A0 : Option Addr) (c0 : Nat) (l : List Ab), k ≤ c.ab.length ∧ m = c.ab.length - k ∧ s4 = .int .i64 (k : Int) ∧ Hid (Below V.heap.size V wr) ∧ Hid (LX ab (F1 A1 c.au A5 c.wl) V.heap.size P (cs1 c A1 c1 A5 c5) wr A0 c0 l) ∧ Hid (l.map Ab.pl = (c.ab.take k).map Ab.pl))
    case atStart => exact ⟨0, none, 0, [], by omega, rfl, rfl, HB2, HL1, Lib.hid rfl⟩
    case round =>
      obtain ⟨k, A0, c0, l, hk, rfl, rfl, HW, HLX, HT⟩ := hrel
      obtain ⟨d0, d1, d2, d3, d4, d5, d6, d7, d8, d9⟩ := HBox.out wr HW.out
      by_cases hkn : k < c.ab.length
      · have hkl : (k : Int) < c.ab.length := by omega
        obtain ⟨a, ha⟩ : ∃ a, c.ab[k]? = some a := ⟨_, List.getElem?_eq_getElem hkn⟩
        have HK := Lib.hid (show k + 1 ≤ c.ab.length from hkn)
        have HKb : Hid ((k : Int) ≤ 60000) := Lib.hid (by have := HSm.out.abs; omega)
        have HMem := Lib.hid (List.mem_of_getElem? ha)
        have HAk := Lib.hid ha
        obtain ⟨p, off, hA, hpl, _⟩ := rowAb HR.out.abs ha (Below.refl _ V) HBw.out
        have HAa := Lib.hid hA
        have HLen : Hid (l.length + 1 ≤ 1000000) := Lib.hid (by have h1 := congrArg List.length HT.out; simp at h1; have := HSm.out.abs; omega)
        have HOwn : Hid (∀ wz, Below wr.heap.size wr wz → wz.cell? ⟨P, 0, none⟩ = some (.slice A0 l.length c0)) := Lib.hid (fun wz hz => HLX.out.box.of hz HLX.out.pl 0 _ rfl)
        have HC : Hid (∀ wz, Below V.heap.size V wz → wz.cell? ⟨w.heap.size, 0, none⟩ = some (.slice c.aA c.ab.length c.aC) ∧ wz.cell? ⟨p, off + k * 8, none⟩ = some (.int .i64 a.id) ∧ wz.cell? ⟨p, off + k * 8 + 1, none⟩ = some (.int .i64 a.cast) ∧ wz.cell? ⟨p, off + k * 8 + 2, none⟩ = some (.int .i64 a.cool) ∧ wz.cell? ⟨p, off + k * 8 + 3, none⟩ = some (.int .i64 a.charges) ∧ wz.cell? ⟨p, off + k * 8 + 4, none⟩ = some (.int .i64 a.range) ∧ wz.cell? ⟨p, off + k * 8 + 5, none⟩ = some (.int .i64 a.cost) ∧ wz.cell? ⟨p, off + k * 8 + 6, none⟩ = some (.bool a.sight) ∧ wz.cell? ⟨p, off + k * 8 + 7, none⟩ = some (.slice a.ea a.eff.length a.ec)) := Lib.hid (fun wz hz => by
          obtain ⟨p2, off2, hA2, _, q⟩ := rowAb HR.out.abs ha hz HBw.out
          rw [hA] at hA2; injection hA2 with e; injection e with e1 e2; subst e1; subst e2
          obtain ⟨d0, d1, d2, d3, d4, d5, d6, d7, d8, d9⟩ := HBox.out wz hz
          exact ⟨d0, q⟩)
        clear ha hA hpl
        rw [HAa.out] at d0
        go_wp2
        have hS0 : Below V.heap.size V wr.drew := HW.out.drew
        have hK0 : Below wr.heap.size wr wr.drew := (Below.refl _ _).drew
        refine wp_region_noPanic ?_
        refine wp_region_held_drew (S := fun w' => Below V.heap.size V w') (by kernel_rfl) hS0 (fun _ => ?_)
        generalize wr.drew = v0 at hS0 hK0 ⊢
        refine wpAnyH_take (i := 0) (oi := ⟨some 31, Op.fieldAddr 31 (Operand.tmp 3) 0, 0, _, _, none⟩) (v := ?vb0) rfl (by kernel_rfl) (by kernel_rfl) (by kernel_rfl) (fun _ _ _ h => h) (Or.inl ⟨by rfl, ?hb0⟩) hS0 ?rb0
        case hb0 => (intro wz hSw; go_simp <;> with_reducible rfl)
        (try simp only [Act.put, List.setIfInBounds_toArray, List.set_cons_zero, List.set_cons_succ])
        refine wpAnyH_take (i := 2) (oi := ⟨some 33, Op.fieldAddr 31 (Operand.tmp 1) 0, 0, _, _, none⟩) (v := ?vb2) rfl (by kernel_rfl) (by kernel_rfl) (by kernel_rfl) (fun _ _ _ h => h) (Or.inl ⟨by rfl, ?hb2⟩) hS0 ?rb2
        case hb2 => (intro wz hSw; go_simp <;> with_reducible rfl)
        (try simp only [Act.put, List.setIfInBounds_toArray, List.set_cons_zero, List.set_cons_succ])
        refine wpAnyH_take (i := 3) (oi := ⟨some 34, Op.load 22 (Operand.tmp 33), 22, _, _, none⟩) (v := ?vb3) rfl (by kernel_rfl) (by kernel_rfl) (by kernel_rfl) (fun _ _ _ h => h) (Or.inl ⟨by rfl, ?hb3⟩) hS0 ?rb3
        case hb3 => (intro wz hSw; obtain ⟨d0, c0, c1, c2, c3, c4, c5, c6, c7⟩ := HC.out wz hSw; rw [HAa.out] at d0; go_simp <;> with_reducible rfl)
        (try simp only [Act.put, List.setIfInBounds_toArray, List.set_cons_zero, List.set_cons_succ])
        refine wpAnyH_take (i := 4) (oi := ⟨some 35, Op.move (Operand.tmp 4), 3, _, _, none⟩) (v := ?vb4) rfl (by kernel_rfl) (by kernel_rfl) (by kernel_rfl) (fun _ _ _ h => h) (Or.inl ⟨by rfl, ?hb4⟩) hS0 ?rb4
        case hb4 => (intro wz hSw; go_simp <;> with_reducible rfl)
        (try simp only [Act.put, List.setIfInBounds_toArray, List.set_cons_zero, List.set_cons_succ])
        refine wpAnyH_take (i := 5) (oi := ⟨some 36, Op.indexAddr 22 (Operand.tmp 34) (Operand.tmp 35), 0, _, _, none⟩) (v := ?vb5) rfl (by kernel_rfl) (by kernel_rfl) (by kernel_rfl) (fun _ _ _ h => h) (Or.inl ⟨by rfl, ?hb5⟩) hS0 ?rb5
        case hb5 => (intro wz hSw; go_simp <;> with_reducible rfl)
        (try simp only [Act.put, List.setIfInBounds_toArray, List.set_cons_zero, List.set_cons_succ])
        refine wpAnyH_take (i := 6) (oi := ⟨some 37, Op.load 52 (Operand.tmp 36), 52, _, _, none⟩) (v := ?vb6) rfl (by kernel_rfl) (by kernel_rfl) (by kernel_rfl) (fun _ _ _ h => h) (Or.inl ⟨by rfl, ?hb6⟩) hS0 ?rb6
        case hb6 => (intro wz hSw; obtain ⟨d0, c0, c1, c2, c3, c4, c5, c6, c7⟩ := HC.out wz hSw; go_simp <;> with_reducible rfl)
        (try simp only [Act.put, List.setIfInBounds_toArray, List.set_cons_zero, List.set_cons_succ])
        refine wpAnyH_ready (rs := [1, 7]) (by kernel_rfl) (by simp) ?_
        refine AllReadyH.cons (o := ⟨some 32, Op.load 22 (Operand.tmp 31), 22, _, _, none⟩) rfl (fun K hK => ?_) (AllReadyH.cons (o := ⟨some 38, Op.call { callee := Callee.value (Operand.func 22), args := #[Operand.tmp 37], argTypes := #[52] }, 52, _, _, none⟩) rfl (fun K hK => ?_) AllReadyH.nil)
        · have z9 := HOwn.out _ hK0
          go_simp
          clear z9
          refine hK.out _ _ hS0 (fun _ => ?_)
          clear hK K
          (try simp only [Act.put, List.setIfInBounds_toArray, List.set_cons_zero, List.set_cons_succ])
          refine wpAnyH_ready (rs := [7]) (by kernel_rfl) (by simp) ?_
          refine AllReadyH.cons (o := ⟨some 38, Op.call { callee := Callee.value (Operand.func 22), args := #[Operand.tmp 37], argTypes := #[52] }, 52, _, _, none⟩) rfl (fun K hK => ?_) AllReadyH.nil
          go_simp
          (with_reducible refine (rcopyAb a ((HR.out.effs a HMem.out).below hS0 HBw.out) (Nat.le_trans HBw.out hS0.size) (HSm.out.effs a HMem.out)).mono ?_); rintro e v12 ⟨A2, c2, rfl, HO, hB12⟩; have hS12 := bstep hB12 hS0; have hK12 := bstep hB12 hK0; have hFr : FrA (a.re A2 c2) v12 (fun k => k < wr.heap.size) := HO.out.pw.aw (fun k hk _ _ h => by have := hK0.size; omega); clear HO
          refine hK.out _ _ hS12 (fun _ => ?_)
          clear hK K
          (try simp only [Act.put, List.setIfInBounds_toArray, List.set_cons_zero, List.set_cons_succ])
          refine wpAnyH_ready (rs := [8]) (by kernel_rfl) (by simp) ?_
          refine AllReadyH.cons (o := ⟨some 39, Op.buildSlice 22 1 #[(0, Operand.tmp 38)], 22, _, _, none⟩) rfl (fun K hK => ?_) AllReadyH.nil
          go_simp
          have hOne := rw_one ab v12 (a.re A2 c2); have hge2 := hK12.size; have hS13 := hS12.alloc hS12.size (oAb (a.re A2 c2)); have hK13 := hK12.alloc hK12.size (oAb (a.re A2 c2)); have hFr2 := frA_stab _ _ _ _ _ hFr (Kp.below ((Below.refl _ v12).alloc (Nat.le_refl _) (oAb (a.re A2 c2)))) (fun _ _ h => h); have hBs : v12.heap.size + 1 ≤ (v12.alloc (oAb (a.re A2 c2))).heap.size := (by simp); clear hFr; generalize hq : v12.heap.size = q at hOne hBs ⊢; change RW ab (v12.alloc (oAb (a.re A2 c2))) _ _ _ at hOne; generalize hV : v12.alloc (oAb (a.re A2 c2)) = v13 at hOne hBs hS13 hK13 hFr2 ⊢; clear hq hV
          refine hK.out _ _ hS13 (fun _ => ?_)
          clear hK K
          (try simp only [Act.put, List.setIfInBounds_toArray, List.set_cons_zero, List.set_cons_succ])
          refine wpAnyH_ready (rs := [9]) (by kernel_rfl) (by simp) ?_
          refine AllReadyH.cons (o := ⟨some 40, Op.call { callee := Callee.builtin Builtin.append, args := #[Operand.tmp 32, Operand.tmp 39], argTypes := #[22, 22] }, 22, _, _, none⟩) rfl (fun K hK => ?_) AllReadyH.nil
          have hLX := HLX.out.step (f1_stab _ _ _ _) hK13; refine step_app ab rfl 22 rfl (.tmp 32) (.tmp 39) rfl V.heap.size (q + 1) (.slice A0 l.length c0) l [(a.re A2 c2)] (some ⟨q, 0, none⟩) 1 1 rfl (by simp [Act.eval]) (by simp [Act.eval]) hLX.own hOne HLen.out hS13.size ?_
          intro A' c' v14 lm nl hlm hnl hO hG hW; have hS14 : Below V.heap.size V v14 := hS13.grown hG hS13.size (fun b hb => (hLX.own.blk hb).1); obtain ⟨hM, hf, hPs⟩ := hLX.mid hG
          refine hK.out _ _ hS14 (fun _ => ?_)
          clear hK K
          (try simp only [Act.put, List.setIfInBounds_toArray, List.set_cons_zero, List.set_cons_succ])
          refine wpAnyH_take (i := 10) (oi := ⟨some 41, Op.fieldAddr 31 (Operand.tmp 3) 0, 0, _, _, none⟩) (v := ?vbb110) rfl (by kernel_rfl) (by kernel_rfl) (by kernel_rfl) (fun _ _ _ h => h) (Or.inl ⟨by rfl, ?hbb110⟩) hS14 ?rbb110
          case hbb110 => (intro wz hSw; go_simp <;> with_reducible rfl)
          (try simp only [Act.put, List.setIfInBounds_toArray, List.set_cons_zero, List.set_cons_succ])
          refine wpAnyH_ready (rs := [11]) (by kernel_rfl) (by simp) ?_
          refine AllReadyH.cons (o := ⟨none, Op.store 22 (Operand.tmp 41) (Operand.tmp 40), 0, _, _, none⟩) rfl (fun K hK => ?_) AllReadyH.nil
          have z9 := hM 0 _ rfl; have y9 := hf 0
          go_simp
          have hS15 := hS14.setCell (p := ⟨P, 0, none⟩) HLX.out.ph (.slice A' nl c'); clear z9 y9
          refine hK.out _ _ hS15 (fun _ => ?_)
          clear hK K
          (try simp only [Act.put, List.setIfInBounds_toArray, List.set_cons_zero, List.set_cons_succ])
          refine wpAnyH_done (by kernel_rfl) ?_ _
          refine NoPanic.normal ?_
          have HP2 := Lib.hid (hLX.put (f1_stab _ _ _ _) frA_stab f1_add hFr2 (fun k hk => by rcases hk with h | h | h; (have h1 := HLX.out.ph; have h2 := HLX.out.pl; omega); (have h2 := HLX.out.pl; omega); exact (HLX.out.own.blk h).2.1) hG hlm hnl hO hW 0 (fun _ => rfl) (fun u v j hj => cs1_far c A1 c1 A5 c5 u v j hj))
          have HS2 := Lib.hid hS15
          have HL2 := Lib.hid hlm
          clear hLX hFr2 hG hO hW hM hf hPs hOne hBs hge2 hnl
          go_wp2
          go_roundg (c.ab.length - (k + 1))
          case measure => have := HK.out; omega
          case rel => have hb9 := HKb.out; exact ⟨k + 1, _, _, _, HK.out, rfl, (by first | exact nxt9 hb9 | go_num), HS2, HP2, Lib.hid (by rw [HL2.out, List.map_append, HT.out, take_step HAk.out, List.map_append]; rfl)⟩
        · go_simp
          (with_reducible refine (rcopyAb a ((HR.out.effs a HMem.out).below hS0 HBw.out) (Nat.le_trans HBw.out hS0.size) (HSm.out.effs a HMem.out)).mono ?_); rintro e v16 ⟨A2, c2, rfl, HO, hB16⟩; have hS16 := bstep hB16 hS0; have hK16 := bstep hB16 hK0; have hFr : FrA (a.re A2 c2) v16 (fun k => k < wr.heap.size) := HO.out.pw.aw (fun k hk _ _ h => by have := hK0.size; omega); clear HO
          refine hK.out _ _ hS16 (fun _ => ?_)
          clear hK K
          (try simp only [Act.put, List.setIfInBounds_toArray, List.set_cons_zero, List.set_cons_succ])
          refine wpAnyH_ready (rs := [1, 8]) (by kernel_rfl) (by simp) ?_
          refine AllReadyH.cons (o := ⟨some 32, Op.load 22 (Operand.tmp 31), 22, _, _, none⟩) rfl (fun K hK => ?_) (AllReadyH.cons (o := ⟨some 39, Op.buildSlice 22 1 #[(0, Operand.tmp 38)], 22, _, _, none⟩) rfl (fun K hK => ?_) AllReadyH.nil)
          · have z9 := HOwn.out _ hK16
            go_simp
            clear z9
            refine hK.out _ _ hS16 (fun _ => ?_)
            clear hK K
            (try simp only [Act.put, List.setIfInBounds_toArray, List.set_cons_zero, List.set_cons_succ])
            refine wpAnyH_ready (rs := [8]) (by kernel_rfl) (by simp) ?_
            refine AllReadyH.cons (o := ⟨some 39, Op.buildSlice 22 1 #[(0, Operand.tmp 38)], 22, _, _, none⟩) rfl (fun K hK => ?_) AllReadyH.nil
            go_simp
            have hOne := rw_one ab v16 (a.re A2 c2); have hge2 := hK16.size; have hS17 := hS16.alloc hS16.size (oAb (a.re A2 c2)); have hK17 := hK16.alloc hK16.size (oAb (a.re A2 c2)); have hFr2 := frA_stab _ _ _ _ _ hFr (Kp.below ((Below.refl _ v16).alloc (Nat.le_refl _) (oAb (a.re A2 c2)))) (fun _ _ h => h); have hBs : v16.heap.size + 1 ≤ (v16.alloc (oAb (a.re A2 c2))).heap.size := (by simp); clear hFr; generalize hq : v16.heap.size = q at hOne hBs ⊢; change RW ab (v16.alloc (oAb (a.re A2 c2))) _ _ _ at hOne; generalize hV : v16.alloc (oAb (a.re A2 c2)) = v17 at hOne hBs hS17 hK17 hFr2 ⊢; clear hq hV
            refine hK.out _ _ hS17 (fun _ => ?_)
            clear hK K
            (try simp only [Act.put, List.setIfInBounds_toArray, List.set_cons_zero, List.set_cons_succ])
            refine wpAnyH_ready (rs := [9]) (by kernel_rfl) (by simp) ?_
            refine AllReadyH.cons (o := ⟨some 40, Op.call { callee := Callee.builtin Builtin.append, args := #[Operand.tmp 32, Operand.tmp 39], argTypes := #[22, 22] }, 22, _, _, none⟩) rfl (fun K hK => ?_) AllReadyH.nil
            have hLX := HLX.out.step (f1_stab _ _ _ _) hK17; refine step_app ab rfl 22 rfl (.tmp 32) (.tmp 39) rfl V.heap.size (q + 1) (.slice A0 l.length c0) l [(a.re A2 c2)] (some ⟨q, 0, none⟩) 1 1 rfl (by simp [Act.eval]) (by simp [Act.eval]) hLX.own hOne HLen.out hS17.size ?_
            intro A' c' v18 lm nl hlm hnl hO hG hW; have hS18 : Below V.heap.size V v18 := hS17.grown hG hS17.size (fun b hb => (hLX.own.blk hb).1); obtain ⟨hM, hf, hPs⟩ := hLX.mid hG
            refine hK.out _ _ hS18 (fun _ => ?_)
            clear hK K
            (try simp only [Act.put, List.setIfInBounds_toArray, List.set_cons_zero, List.set_cons_succ])
            refine wpAnyH_take (i := 10) (oi := ⟨some 41, Op.fieldAddr 31 (Operand.tmp 3) 0, 0, _, _, none⟩) (v := ?vbb7b110) rfl (by kernel_rfl) (by kernel_rfl) (by kernel_rfl) (fun _ _ _ h => h) (Or.inl ⟨by rfl, ?hbb7b110⟩) hS18 ?rbb7b110
            case hbb7b110 => (intro wz hSw; go_simp <;> with_reducible rfl)
            (try simp only [Act.put, List.setIfInBounds_toArray, List.set_cons_zero, List.set_cons_succ])
            refine wpAnyH_ready (rs := [11]) (by kernel_rfl) (by simp) ?_
            refine AllReadyH.cons (o := ⟨none, Op.store 22 (Operand.tmp 41) (Operand.tmp 40), 0, _, _, none⟩) rfl (fun K hK => ?_) AllReadyH.nil
            have z9 := hM 0 _ rfl; have y9 := hf 0
            go_simp
            have hS19 := hS18.setCell (p := ⟨P, 0, none⟩) HLX.out.ph (.slice A' nl c'); clear z9 y9
            refine hK.out _ _ hS19 (fun _ => ?_)
            clear hK K
            (try simp only [Act.put, List.setIfInBounds_toArray, List.set_cons_zero, List.set_cons_succ])
            refine wpAnyH_done (by kernel_rfl) ?_ _
            refine NoPanic.normal ?_
            have HP2 := Lib.hid (hLX.put (f1_stab _ _ _ _) frA_stab f1_add hFr2 (fun k hk => by rcases hk with h | h | h; (have h1 := HLX.out.ph; have h2 := HLX.out.pl; omega); (have h2 := HLX.out.pl; omega); exact (HLX.out.own.blk h).2.1) hG hlm hnl hO hW 0 (fun _ => rfl) (fun u v j hj => cs1_far c A1 c1 A5 c5 u v j hj))
            have HS2 := Lib.hid hS19
            have HL2 := Lib.hid hlm
            clear hLX hFr2 hG hO hW hM hf hPs hOne hBs hge2 hnl
            go_wp2
            go_roundg (c.ab.length - (k + 1))
            case measure => have := HK.out; omega
            case rel => have hb9 := HKb.out; exact ⟨k + 1, _, _, _, HK.out, rfl, (by first | exact nxt9 hb9 | go_num), HS2, HP2, Lib.hid (by rw [HL2.out, List.map_append, HT.out, take_step HAk.out, List.map_append]; rfl)⟩
          · go_simp
            have hOne := rw_one ab v16 (a.re A2 c2); have hge2 := hK16.size; have hS20 := hS16.alloc hS16.size (oAb (a.re A2 c2)); have hK20 := hK16.alloc hK16.size (oAb (a.re A2 c2)); have hFr2 := frA_stab _ _ _ _ _ hFr (Kp.below ((Below.refl _ v16).alloc (Nat.le_refl _) (oAb (a.re A2 c2)))) (fun _ _ h => h); have hBs : v16.heap.size + 1 ≤ (v16.alloc (oAb (a.re A2 c2))).heap.size := (by simp); clear hFr; generalize hq : v16.heap.size = q at hOne hBs ⊢; change RW ab (v16.alloc (oAb (a.re A2 c2))) _ _ _ at hOne; generalize hV : v16.alloc (oAb (a.re A2 c2)) = v20 at hOne hBs hS20 hK20 hFr2 ⊢; clear hq hV
            refine hK.out _ _ hS20 (fun _ => ?_)
            clear hK K
            (try simp only [Act.put, List.setIfInBounds_toArray, List.set_cons_zero, List.set_cons_succ])
            refine wpAnyH_ready (rs := [1]) (by kernel_rfl) (by simp) ?_
            refine AllReadyH.cons (o := ⟨some 32, Op.load 22 (Operand.tmp 31), 22, _, _, none⟩) rfl (fun K hK => ?_) AllReadyH.nil
            have z9 := HOwn.out _ hK20
            go_simp
            clear z9
            refine hK.out _ _ hS20 (fun _ => ?_)
            clear hK K
            (try simp only [Act.put, List.setIfInBounds_toArray, List.set_cons_zero, List.set_cons_succ])
            refine wpAnyH_ready (rs := [9]) (by kernel_rfl) (by simp) ?_
            refine AllReadyH.cons (o := ⟨some 40, Op.call { callee := Callee.builtin Builtin.append, args := #[Operand.tmp 32, Operand.tmp 39], argTypes := #[22, 22] }, 22, _, _, none⟩) rfl (fun K hK => ?_) AllReadyH.nil
            have hLX := HLX.out.step (f1_stab _ _ _ _) hK20; refine step_app ab rfl 22 rfl (.tmp 32) (.tmp 39) rfl V.heap.size (q + 1) (.slice A0 l.length c0) l [(a.re A2 c2)] (some ⟨q, 0, none⟩) 1 1 rfl (by simp [Act.eval]) (by simp [Act.eval]) hLX.own hOne HLen.out hS20.size ?_
            intro A' c' v21 lm nl hlm hnl hO hG hW; have hS21 : Below V.heap.size V v21 := hS20.grown hG hS20.size (fun b hb => (hLX.own.blk hb).1); obtain ⟨hM, hf, hPs⟩ := hLX.mid hG
            refine hK.out _ _ hS21 (fun _ => ?_)
            clear hK K
            (try simp only [Act.put, List.setIfInBounds_toArray, List.set_cons_zero, List.set_cons_succ])
            refine wpAnyH_take (i := 10) (oi := ⟨some 41, Op.fieldAddr 31 (Operand.tmp 3) 0, 0, _, _, none⟩) (v := ?vbb7b810) rfl (by kernel_rfl) (by kernel_rfl) (by kernel_rfl) (fun _ _ _ h => h) (Or.inl ⟨by rfl, ?hbb7b810⟩) hS21 ?rbb7b810
            case hbb7b810 => (intro wz hSw; go_simp <;> with_reducible rfl)
            (try simp only [Act.put, List.setIfInBounds_toArray, List.set_cons_zero, List.set_cons_succ])
            refine wpAnyH_ready (rs := [11]) (by kernel_rfl) (by simp) ?_
            refine AllReadyH.cons (o := ⟨none, Op.store 22 (Operand.tmp 41) (Operand.tmp 40), 0, _, _, none⟩) rfl (fun K hK => ?_) AllReadyH.nil
            have z9 := hM 0 _ rfl; have y9 := hf 0
            go_simp
            have hS22 := hS21.setCell (p := ⟨P, 0, none⟩) HLX.out.ph (.slice A' nl c'); clear z9 y9
            refine hK.out _ _ hS22 (fun _ => ?_)
            clear hK K
            (try simp only [Act.put, List.setIfInBounds_toArray, List.set_cons_zero, List.set_cons_succ])
            refine wpAnyH_done (by kernel_rfl) ?_ _
            refine NoPanic.normal ?_
            have HP2 := Lib.hid (hLX.put (f1_stab _ _ _ _) frA_stab f1_add hFr2 (fun k hk => by rcases hk with h | h | h; (have h1 := HLX.out.ph; have h2 := HLX.out.pl; omega); (have h2 := HLX.out.pl; omega); exact (HLX.out.own.blk h).2.1) hG hlm hnl hO hW 0 (fun _ => rfl) (fun u v j hj => cs1_far c A1 c1 A5 c5 u v j hj))
            have HS2 := Lib.hid hS22
            have HL2 := Lib.hid hlm
            clear hLX hFr2 hG hO hW hM hf hPs hOne hBs hge2 hnl
            go_wp2
            go_roundg (c.ab.length - (k + 1))
            case measure => have := HK.out; omega
            case rel => have hb9 := HKb.out; exact ⟨k + 1, _, _, _, HK.out, rfl, (by first | exact nxt9 hb9 | go_num), HS2, HP2, Lib.hid (by rw [HL2.out, List.map_append, HT.out, take_step HAk.out, List.map_append]; rfl)⟩
      · have hkl : decide ((k : Int) < c.ab.length) = false := by simp; omega
        have HTf : Hid (l.map Ab.pl = c.ab.map Ab.pl) := Lib.hid (by have h1 := HT.out; rw [List.take_of_length_le (by omega)] at h1; exact h1)
        have HLZ := HLX
        have HTz := HTf
        have HB2 := HW
        obtain ⟨B0, hB0⟩ : ∃ x, x = A0 := ⟨_, rfl⟩
        obtain ⟨b0, hb0⟩ : ∃ x, x = c0 := ⟨_, rfl⟩
        obtain ⟨lz, hlz⟩ : ∃ x, x = l := ⟨_, rfl⟩
        subst hB0; subst hb0; subst hlz
        have HST : Hid (LX fo (F2 B0 lz A1 c.au A5 c.wl) V.heap.size P (cs2 c B0 lz.length b0 A1 c1 A5 c5) wr none 0 []) := Lib.hid ⟨HLX.out.ph, HLX.out.pl, HLX.out.box, HLX.out.fz, OW.nil fo _ _, fun b hb => by (cases hb), ⟨HLX.out.own.pw.aw (fun k hk hks hA h => by
            rcases h with h | h | h
            · omega
            · exact HLX.out.ne k (ownB hA) h
            · cases h), f1_stab _ _ _ _ _ _ _ _ _ HLX.out.kept (Kp.below (Below.refl _ _)) (fun k _ h => by
            rcases h with h | h | h
            · exact .inl h
            · exact .inr (.inl h)
            · cases h), fun f hf => (by cases hf)⟩⟩
        clear HT HLX HTf HLZ
        go_wp2
        go_loopg [5] c.fo.length (fun m s5 wr => ∃ (k : Nat) (A0 : Option Addr) (c0 : Nat) (l : List Fo), k ≤ c.fo.length ∧ m = c.fo.length - k ∧ s5 = .int .i64 (k : Int) ∧ Hid (Below V.heap.size V wr) ∧ Hid (LX fo (F2 B0 lz A1 c.au A5 c.wl) V.heap.size P (cs2 c B0 lz.length b0 A1 c1 A5 c5) wr A0 c0 l) ∧ Hid (l.map Fo.pl = (c.fo.take k).map Fo.pl))
        case atStart => exact ⟨0, none, 0, [], by omega, rfl, rfl, HB2, HST, Lib.hid rfl⟩
        case round =>
          obtain ⟨k, A0, c0, l, hk, rfl, rfl, HW, HLX, HT⟩ := hrel
          obtain ⟨d0, d1, d2, d3, d4, d5, d6, d7, d8, d9⟩ := HBox.out wr HW.out
          by_cases hkn : k < c.fo.length
          · have hkl : (k : Int) < c.fo.length := by omega
            obtain ⟨a, ha⟩ : ∃ a, c.fo[k]? = some a := ⟨_, List.getElem?_eq_getElem hkn⟩
            have HK := Lib.hid (show k + 1 ≤ c.fo.length from hkn)
            have HKb : Hid ((k : Int) ≤ 60000) := Lib.hid (by have := HSm.out.fos; omega)
            have HMem := Lib.hid (List.mem_of_getElem? ha)
            have HAk := Lib.hid ha
            obtain ⟨p, off, hA, hpl, _⟩ := rowFo HR.out.fos ha (Below.refl _ V) HBw.out
            have HAa := Lib.hid hA
            have HLen : Hid (l.length + 1 ≤ 1000000) := Lib.hid (by have h1 := congrArg List.length HT.out; simp at h1; have := HSm.out.fos; omega)
            have HOwn : Hid (∀ wz, Below wr.heap.size wr wz → wz.cell? ⟨P, 2, none⟩ = some (.slice A0 l.length c0)) := Lib.hid (fun wz hz => HLX.out.box.of hz HLX.out.pl 2 _ rfl)
            have HC : Hid (∀ wz, Below V.heap.size V wz → wz.cell? ⟨w.heap.size, 2, none⟩ = some (.slice c.fA c.fo.length c.fC) ∧ wz.cell? ⟨p, off + k * 8, none⟩ = some (.int .i64 a.id) ∧ wz.cell? ⟨p, off + k * 8 + 1, none⟩ = some (.int .i64 a.health) ∧ wz.cell? ⟨p, off + k * 8 + 2, none⟩ = some (.int .i64 a.hit) ∧ wz.cell? ⟨p, off + k * 8 + 3, none⟩ = some (.int .i64 a.every) ∧ wz.cell? ⟨p, off + k * 8 + 4, none⟩ = some (.int .i64 a.reach) ∧ wz.cell? ⟨p, off + k * 8 + 5, none⟩ = some (.slice a.sa a.script.length a.sc) ∧ wz.cell? ⟨p, off + k * 8 + 6, none⟩ = some (.slice a.ha a.hoard.length a.hc) ∧ wz.cell? ⟨p, off + k * 8 + 7, none⟩ = some (.int .i64 a.drops)) := Lib.hid (fun wz hz => by
              obtain ⟨p2, off2, hA2, _, q⟩ := rowFo HR.out.fos ha hz HBw.out
              rw [hA] at hA2; injection hA2 with e; injection e with e1 e2; subst e1; subst e2
              obtain ⟨d0, d1, d2, d3, d4, d5, d6, d7, d8, d9⟩ := HBox.out wz hz
              exact ⟨d2, q⟩)
            clear ha hA hpl
            rw [HAa.out] at d2
            go_wp2
            have hS0 : Below V.heap.size V wr.drew := HW.out.drew
            have hK0 : Below wr.heap.size wr wr.drew := (Below.refl _ _).drew
            refine wp_region_noPanic ?_
            refine wp_region_held_drew (S := fun w' => Below V.heap.size V w') (by kernel_rfl) hS0 (fun _ => ?_)
            generalize wr.drew = v0 at hS0 hK0 ⊢
            refine wpAnyH_take (i := 0) (oi := ⟨some 49, Op.fieldAddr 31 (Operand.tmp 3) 2, 0, _, _, none⟩) (v := ?vc0) rfl (by kernel_rfl) (by kernel_rfl) (by kernel_rfl) (fun _ _ _ h => h) (Or.inl ⟨by rfl, ?hc0⟩) hS0 ?rc0
            case hc0 => (intro wz hSw; go_simp <;> with_reducible rfl)
            (try simp only [Act.put, List.setIfInBounds_toArray, List.set_cons_zero, List.set_cons_succ])
            refine wpAnyH_take (i := 2) (oi := ⟨some 51, Op.fieldAddr 31 (Operand.tmp 1) 2, 0, _, _, none⟩) (v := ?vc2) rfl (by kernel_rfl) (by kernel_rfl) (by kernel_rfl) (fun _ _ _ h => h) (Or.inl ⟨by rfl, ?hc2⟩) hS0 ?rc2
            case hc2 => (intro wz hSw; go_simp <;> with_reducible rfl)
            (try simp only [Act.put, List.setIfInBounds_toArray, List.set_cons_zero, List.set_cons_succ])
            refine wpAnyH_take (i := 3) (oi := ⟨some 52, Op.load 24 (Operand.tmp 51), 24, _, _, none⟩) (v := ?vc3) rfl (by kernel_rfl) (by kernel_rfl) (by kernel_rfl) (fun _ _ _ h => h) (Or.inl ⟨by rfl, ?hc3⟩) hS0 ?rc3
            case hc3 => (intro wz hSw; obtain ⟨d2, c0, c1, c2, c3, c4, c5, c6, c7⟩ := HC.out wz hSw; rw [HAa.out] at d2; go_simp <;> with_reducible rfl)
            (try simp only [Act.put, List.setIfInBounds_toArray, List.set_cons_zero, List.set_cons_succ])
            refine wpAnyH_take (i := 4) (oi := ⟨some 53, Op.move (Operand.tmp 5), 3, _, _, none⟩) (v := ?vc4) rfl (by kernel_rfl) (by kernel_rfl) (by kernel_rfl) (fun _ _ _ h => h) (Or.inl ⟨by rfl, ?hc4⟩) hS0 ?rc4
            case hc4 => (intro wz hSw; go_simp <;> with_reducible rfl)
            (try simp only [Act.put, List.setIfInBounds_toArray, List.set_cons_zero, List.set_cons_succ])
            refine wpAnyH_take (i := 5) (oi := ⟨some 54, Op.indexAddr 24 (Operand.tmp 52) (Operand.tmp 53), 0, _, _, none⟩) (v := ?vc5) rfl (by kernel_rfl) (by kernel_rfl) (by kernel_rfl) (fun _ _ _ h => h) (Or.inl ⟨by rfl, ?hc5⟩) hS0 ?rc5
            case hc5 => (intro wz hSw; go_simp <;> with_reducible rfl)
            (try simp only [Act.put, List.setIfInBounds_toArray, List.set_cons_zero, List.set_cons_succ])
            refine wpAnyH_take (i := 6) (oi := ⟨some 55, Op.load 56 (Operand.tmp 54), 56, _, _, none⟩) (v := ?vc6) rfl (by kernel_rfl) (by kernel_rfl) (by kernel_rfl) (fun _ _ _ h => h) (Or.inl ⟨by rfl, ?hc6⟩) hS0 ?rc6
            case hc6 => (intro wz hSw; obtain ⟨d2, c0, c1, c2, c3, c4, c5, c6, c7⟩ := HC.out wz hSw; go_simp <;> with_reducible rfl)
            (try simp only [Act.put, List.setIfInBounds_toArray, List.set_cons_zero, List.set_cons_succ])
            refine wpAnyH_ready (rs := [1, 7]) (by kernel_rfl) (by simp) ?_
            refine AllReadyH.cons (o := ⟨some 50, Op.load 24 (Operand.tmp 49), 24, _, _, none⟩) rfl (fun K hK => ?_) (AllReadyH.cons (o := ⟨some 56, Op.call { callee := Callee.value (Operand.func 23), args := #[Operand.tmp 55], argTypes := #[56] }, 56, _, _, none⟩) rfl (fun K hK => ?_) AllReadyH.nil)
            · have z9 := HOwn.out _ hK0
              go_simp
              clear z9
              refine hK.out _ _ hS0 (fun _ => ?_)
              clear hK K
              (try simp only [Act.put, List.setIfInBounds_toArray, List.set_cons_zero, List.set_cons_succ])
              refine wpAnyH_ready (rs := [7]) (by kernel_rfl) (by simp) ?_
              refine AllReadyH.cons (o := ⟨some 56, Op.call { callee := Callee.value (Operand.func 23), args := #[Operand.tmp 55], argTypes := #[56] }, 56, _, _, none⟩) rfl (fun K hK => ?_) AllReadyH.nil
              go_simp
              (with_reducible refine (rcopyFo a ((HR.out.scrs a HMem.out).below hS0 HBw.out) ((HR.out.hors a HMem.out).below hS0 HBw.out) (Nat.le_trans HBw.out hS0.size) (HSm.out.scrs a HMem.out) (HSm.out.hors a HMem.out)).mono ?_); rintro e v23 ⟨A2, c2, A3, c3, rfl, HO, HO2, hB23⟩; have hS23 := bstep hB23 hS0; have hK23 := bstep hB23 hK0; have hFr : FrF (a.re A2 c2 A3 c3) v23 (fun k => k < wr.heap.size) := ⟨HO.out.pw.aw (fun k hk _ _ h => by have := hK0.size; omega), HO2.out.pw.aw (fun k hk _ _ h => by have := hK0.size; omega)⟩; clear HO HO2
              refine hK.out _ _ hS23 (fun _ => ?_)
              clear hK K
              (try simp only [Act.put, List.setIfInBounds_toArray, List.set_cons_zero, List.set_cons_succ])
              refine wpAnyH_ready (rs := [8]) (by kernel_rfl) (by simp) ?_
              refine AllReadyH.cons (o := ⟨some 57, Op.buildSlice 24 1 #[(0, Operand.tmp 56)], 24, _, _, none⟩) rfl (fun K hK => ?_) AllReadyH.nil
              go_simp
              have hOne := rw_one fo v23 (a.re A2 c2 A3 c3); have hge2 := hK23.size; have hS24 := hS23.alloc hS23.size (oFo (a.re A2 c2 A3 c3)); have hK24 := hK23.alloc hK23.size (oFo (a.re A2 c2 A3 c3)); have hFr2 := frF_stab _ _ _ _ _ hFr (Kp.below ((Below.refl _ v23).alloc (Nat.le_refl _) (oFo (a.re A2 c2 A3 c3)))) (fun _ _ h => h); have hBs : v23.heap.size + 1 ≤ (v23.alloc (oFo (a.re A2 c2 A3 c3))).heap.size := (by simp); clear hFr; generalize hq : v23.heap.size = q at hOne hBs ⊢; change RW fo (v23.alloc (oFo (a.re A2 c2 A3 c3))) _ _ _ at hOne; generalize hV : v23.alloc (oFo (a.re A2 c2 A3 c3)) = v24 at hOne hBs hS24 hK24 hFr2 ⊢; clear hq hV
              refine hK.out _ _ hS24 (fun _ => ?_)
              clear hK K
              (try simp only [Act.put, List.setIfInBounds_toArray, List.set_cons_zero, List.set_cons_succ])
              refine wpAnyH_ready (rs := [9]) (by kernel_rfl) (by simp) ?_
              refine AllReadyH.cons (o := ⟨some 58, Op.call { callee := Callee.builtin Builtin.append, args := #[Operand.tmp 50, Operand.tmp 57], argTypes := #[24, 24] }, 24, _, _, none⟩) rfl (fun K hK => ?_) AllReadyH.nil
              have hLX := HLX.out.step (f2_stab _ _ _ _ _ _) hK24; refine step_app fo rfl 24 rfl (.tmp 50) (.tmp 57) rfl V.heap.size (q + 1) (.slice A0 l.length c0) l [(a.re A2 c2 A3 c3)] (some ⟨q, 0, none⟩) 1 1 rfl (by simp [Act.eval]) (by simp [Act.eval]) hLX.own hOne HLen.out hS24.size ?_
              intro A' c' v25 lm nl hlm hnl hO hG hW; have hS25 : Below V.heap.size V v25 := hS24.grown hG hS24.size (fun b hb => (hLX.own.blk hb).1); obtain ⟨hM, hf, hPs⟩ := hLX.mid hG
              refine hK.out _ _ hS25 (fun _ => ?_)
              clear hK K
              (try simp only [Act.put, List.setIfInBounds_toArray, List.set_cons_zero, List.set_cons_succ])
              refine wpAnyH_take (i := 10) (oi := ⟨some 59, Op.fieldAddr 31 (Operand.tmp 3) 2, 0, _, _, none⟩) (v := ?vcb110) rfl (by kernel_rfl) (by kernel_rfl) (by kernel_rfl) (fun _ _ _ h => h) (Or.inl ⟨by rfl, ?hcb110⟩) hS25 ?rcb110
              case hcb110 => (intro wz hSw; go_simp <;> with_reducible rfl)
              (try simp only [Act.put, List.setIfInBounds_toArray, List.set_cons_zero, List.set_cons_succ])
              refine wpAnyH_ready (rs := [11]) (by kernel_rfl) (by simp) ?_
              refine AllReadyH.cons (o := ⟨none, Op.store 24 (Operand.tmp 59) (Operand.tmp 58), 0, _, _, none⟩) rfl (fun K hK => ?_) AllReadyH.nil
              have z9 := hM 2 _ rfl; have y9 := hf 2
              go_simp
              have hS26 := hS25.setCell (p := ⟨P, 2, none⟩) HLX.out.ph (.slice A' nl c'); clear z9 y9
              refine hK.out _ _ hS26 (fun _ => ?_)
              clear hK K
              (try simp only [Act.put, List.setIfInBounds_toArray, List.set_cons_zero, List.set_cons_succ])
              refine wpAnyH_done (by kernel_rfl) ?_ _
              refine NoPanic.normal ?_
              have HP2 := Lib.hid (hLX.put (f2_stab _ _ _ _ _ _) frF_stab f2_add hFr2 (fun k hk => by rcases hk with h | h | h; (have h1 := HLX.out.ph; have h2 := HLX.out.pl; omega); (have h2 := HLX.out.pl; omega); exact (HLX.out.own.blk h).2.1) hG hlm hnl hO hW 2 (fun _ => rfl) (fun u v j hj => cs2_far c B0 lz.length b0 A1 c1 A5 c5 u v j hj))
              have HS2 := Lib.hid hS26
              have HL2 := Lib.hid hlm
              clear hLX hFr2 hG hO hW hM hf hPs hOne hBs hge2 hnl
              go_wp2
              go_roundg (c.fo.length - (k + 1))
              case measure => have := HK.out; omega
              case rel => have hb9 := HKb.out; exact ⟨k + 1, _, _, _, HK.out, rfl, (by first | exact nxt9 hb9 | go_num), HS2, HP2, Lib.hid (by rw [HL2.out, List.map_append, HT.out, take_step HAk.out, List.map_append]; rfl)⟩
            · go_simp
              (with_reducible refine (rcopyFo a ((HR.out.scrs a HMem.out).below hS0 HBw.out) ((HR.out.hors a HMem.out).below hS0 HBw.out) (Nat.le_trans HBw.out hS0.size) (HSm.out.scrs a HMem.out) (HSm.out.hors a HMem.out)).mono ?_); rintro e v27 ⟨A2, c2, A3, c3, rfl, HO, HO2, hB27⟩; have hS27 := bstep hB27 hS0; have hK27 := bstep hB27 hK0; have hFr : FrF (a.re A2 c2 A3 c3) v27 (fun k => k < wr.heap.size) := ⟨HO.out.pw.aw (fun k hk _ _ h => by have := hK0.size; omega), HO2.out.pw.aw (fun k hk _ _ h => by have := hK0.size; omega)⟩; clear HO HO2
              refine hK.out _ _ hS27 (fun _ => ?_)
              clear hK K
              (try simp only [Act.put, List.setIfInBounds_toArray, List.set_cons_zero, List.set_cons_succ])
              refine wpAnyH_ready (rs := [1, 8]) (by kernel_rfl) (by simp) ?_
              refine AllReadyH.cons (o := ⟨some 50, Op.load 24 (Operand.tmp 49), 24, _, _, none⟩) rfl (fun K hK => ?_) (AllReadyH.cons (o := ⟨some 57, Op.buildSlice 24 1 #[(0, Operand.tmp 56)], 24, _, _, none⟩) rfl (fun K hK => ?_) AllReadyH.nil)
              · have z9 := HOwn.out _ hK27
                go_simp
                clear z9
                refine hK.out _ _ hS27 (fun _ => ?_)
                clear hK K
                (try simp only [Act.put, List.setIfInBounds_toArray, List.set_cons_zero, List.set_cons_succ])
                refine wpAnyH_ready (rs := [8]) (by kernel_rfl) (by simp) ?_
                refine AllReadyH.cons (o := ⟨some 57, Op.buildSlice 24 1 #[(0, Operand.tmp 56)], 24, _, _, none⟩) rfl (fun K hK => ?_) AllReadyH.nil
                go_simp
                have hOne := rw_one fo v27 (a.re A2 c2 A3 c3); have hge2 := hK27.size; have hS28 := hS27.alloc hS27.size (oFo (a.re A2 c2 A3 c3)); have hK28 := hK27.alloc hK27.size (oFo (a.re A2 c2 A3 c3)); have hFr2 := frF_stab _ _ _ _ _ hFr (Kp.below ((Below.refl _ v27).alloc (Nat.le_refl _) (oFo (a.re A2 c2 A3 c3)))) (fun _ _ h => h); have hBs : v27.heap.size + 1 ≤ (v27.alloc (oFo (a.re A2 c2 A3 c3))).heap.size := (by simp); clear hFr; generalize hq : v27.heap.size = q at hOne hBs ⊢; change RW fo (v27.alloc (oFo (a.re A2 c2 A3 c3))) _ _ _ at hOne; generalize hV : v27.alloc (oFo (a.re A2 c2 A3 c3)) = v28 at hOne hBs hS28 hK28 hFr2 ⊢; clear hq hV
                refine hK.out _ _ hS28 (fun _ => ?_)
                clear hK K
                (try simp only [Act.put, List.setIfInBounds_toArray, List.set_cons_zero, List.set_cons_succ])
                refine wpAnyH_ready (rs := [9]) (by kernel_rfl) (by simp) ?_
                refine AllReadyH.cons (o := ⟨some 58, Op.call { callee := Callee.builtin Builtin.append, args := #[Operand.tmp 50, Operand.tmp 57], argTypes := #[24, 24] }, 24, _, _, none⟩) rfl (fun K hK => ?_) AllReadyH.nil
                have hLX := HLX.out.step (f2_stab _ _ _ _ _ _) hK28; refine step_app fo rfl 24 rfl (.tmp 50) (.tmp 57) rfl V.heap.size (q + 1) (.slice A0 l.length c0) l [(a.re A2 c2 A3 c3)] (some ⟨q, 0, none⟩) 1 1 rfl (by simp [Act.eval]) (by simp [Act.eval]) hLX.own hOne HLen.out hS28.size ?_
                intro A' c' v29 lm nl hlm hnl hO hG hW; have hS29 : Below V.heap.size V v29 := hS28.grown hG hS28.size (fun b hb => (hLX.own.blk hb).1); obtain ⟨hM, hf, hPs⟩ := hLX.mid hG
                refine hK.out _ _ hS29 (fun _ => ?_)
                clear hK K
                (try simp only [Act.put, List.setIfInBounds_toArray, List.set_cons_zero, List.set_cons_succ])
                refine wpAnyH_take (i := 10) (oi := ⟨some 59, Op.fieldAddr 31 (Operand.tmp 3) 2, 0, _, _, none⟩) (v := ?vcb7b110) rfl (by kernel_rfl) (by kernel_rfl) (by kernel_rfl) (fun _ _ _ h => h) (Or.inl ⟨by rfl, ?hcb7b110⟩) hS29 ?rcb7b110
                case hcb7b110 => (intro wz hSw; go_simp <;> with_reducible rfl)
                (try simp only [Act.put, List.setIfInBounds_toArray, List.set_cons_zero, List.set_cons_succ])
                refine wpAnyH_ready (rs := [11]) (by kernel_rfl) (by simp) ?_
                refine AllReadyH.cons (o := ⟨none, Op.store 24 (Operand.tmp 59) (Operand.tmp 58), 0, _, _, none⟩) rfl (fun K hK => ?_) AllReadyH.nil
                have z9 := hM 2 _ rfl; have y9 := hf 2
                go_simp
                have hS30 := hS29.setCell (p := ⟨P, 2, none⟩) HLX.out.ph (.slice A' nl c'); clear z9 y9
                refine hK.out _ _ hS30 (fun _ => ?_)
                clear hK K
                (try simp only [Act.put, List.setIfInBounds_toArray, List.set_cons_zero, List.set_cons_succ])
                refine wpAnyH_done (by kernel_rfl) ?_ _
                refine NoPanic.normal ?_
                have HP2 := Lib.hid (hLX.put (f2_stab _ _ _ _ _ _) frF_stab f2_add hFr2 (fun k hk => by rcases hk with h | h | h; (have h1 := HLX.out.ph; have h2 := HLX.out.pl; omega); (have h2 := HLX.out.pl; omega); exact (HLX.out.own.blk h).2.1) hG hlm hnl hO hW 2 (fun _ => rfl) (fun u v j hj => cs2_far c B0 lz.length b0 A1 c1 A5 c5 u v j hj))
                have HS2 := Lib.hid hS30
                have HL2 := Lib.hid hlm
                clear hLX hFr2 hG hO hW hM hf hPs hOne hBs hge2 hnl
                go_wp2
                go_roundg (c.fo.length - (k + 1))
                case measure => have := HK.out; omega
                case rel => have hb9 := HKb.out; exact ⟨k + 1, _, _, _, HK.out, rfl, (by first | exact nxt9 hb9 | go_num), HS2, HP2, Lib.hid (by rw [HL2.out, List.map_append, HT.out, take_step HAk.out, List.map_append]; rfl)⟩
              · go_simp
                have hOne := rw_one fo v27 (a.re A2 c2 A3 c3); have hge2 := hK27.size; have hS31 := hS27.alloc hS27.size (oFo (a.re A2 c2 A3 c3)); have hK31 := hK27.alloc hK27.size (oFo (a.re A2 c2 A3 c3)); have hFr2 := frF_stab _ _ _ _ _ hFr (Kp.below ((Below.refl _ v27).alloc (Nat.le_refl _) (oFo (a.re A2 c2 A3 c3)))) (fun _ _ h => h); have hBs : v27.heap.size + 1 ≤ (v27.alloc (oFo (a.re A2 c2 A3 c3))).heap.size := (by simp); clear hFr; generalize hq : v27.heap.size = q at hOne hBs ⊢; change RW fo (v27.alloc (oFo (a.re A2 c2 A3 c3))) _ _ _ at hOne; generalize hV : v27.alloc (oFo (a.re A2 c2 A3 c3)) = v31 at hOne hBs hS31 hK31 hFr2 ⊢; clear hq hV
                refine hK.out _ _ hS31 (fun _ => ?_)
                clear hK K
                (try simp only [Act.put, List.setIfInBounds_toArray, List.set_cons_zero, List.set_cons_succ])
                refine wpAnyH_ready (rs := [1]) (by kernel_rfl) (by simp) ?_
                refine AllReadyH.cons (o := ⟨some 50, Op.load 24 (Operand.tmp 49), 24, _, _, none⟩) rfl (fun K hK => ?_) AllReadyH.nil
                have z9 := HOwn.out _ hK31
                go_simp
                clear z9
                refine hK.out _ _ hS31 (fun _ => ?_)
                clear hK K
                (try simp only [Act.put, List.setIfInBounds_toArray, List.set_cons_zero, List.set_cons_succ])
                refine wpAnyH_ready (rs := [9]) (by kernel_rfl) (by simp) ?_
                refine AllReadyH.cons (o := ⟨some 58, Op.call { callee := Callee.builtin Builtin.append, args := #[Operand.tmp 50, Operand.tmp 57], argTypes := #[24, 24] }, 24, _, _, none⟩) rfl (fun K hK => ?_) AllReadyH.nil
                have hLX := HLX.out.step (f2_stab _ _ _ _ _ _) hK31; refine step_app fo rfl 24 rfl (.tmp 50) (.tmp 57) rfl V.heap.size (q + 1) (.slice A0 l.length c0) l [(a.re A2 c2 A3 c3)] (some ⟨q, 0, none⟩) 1 1 rfl (by simp [Act.eval]) (by simp [Act.eval]) hLX.own hOne HLen.out hS31.size ?_
                intro A' c' v32 lm nl hlm hnl hO hG hW; have hS32 : Below V.heap.size V v32 := hS31.grown hG hS31.size (fun b hb => (hLX.own.blk hb).1); obtain ⟨hM, hf, hPs⟩ := hLX.mid hG
                refine hK.out _ _ hS32 (fun _ => ?_)
                clear hK K
                (try simp only [Act.put, List.setIfInBounds_toArray, List.set_cons_zero, List.set_cons_succ])
                refine wpAnyH_take (i := 10) (oi := ⟨some 59, Op.fieldAddr 31 (Operand.tmp 3) 2, 0, _, _, none⟩) (v := ?vcb7b810) rfl (by kernel_rfl) (by kernel_rfl) (by kernel_rfl) (fun _ _ _ h => h) (Or.inl ⟨by rfl, ?hcb7b810⟩) hS32 ?rcb7b810
                case hcb7b810 => (intro wz hSw; go_simp <;> with_reducible rfl)
                (try simp only [Act.put, List.setIfInBounds_toArray, List.set_cons_zero, List.set_cons_succ])
                refine wpAnyH_ready (rs := [11]) (by kernel_rfl) (by simp) ?_
                refine AllReadyH.cons (o := ⟨none, Op.store 24 (Operand.tmp 59) (Operand.tmp 58), 0, _, _, none⟩) rfl (fun K hK => ?_) AllReadyH.nil
                have z9 := hM 2 _ rfl; have y9 := hf 2
                go_simp
                have hS33 := hS32.setCell (p := ⟨P, 2, none⟩) HLX.out.ph (.slice A' nl c'); clear z9 y9
                refine hK.out _ _ hS33 (fun _ => ?_)
                clear hK K
                (try simp only [Act.put, List.setIfInBounds_toArray, List.set_cons_zero, List.set_cons_succ])
                refine wpAnyH_done (by kernel_rfl) ?_ _
                refine NoPanic.normal ?_
                have HP2 := Lib.hid (hLX.put (f2_stab _ _ _ _ _ _) frF_stab f2_add hFr2 (fun k hk => by rcases hk with h | h | h; (have h1 := HLX.out.ph; have h2 := HLX.out.pl; omega); (have h2 := HLX.out.pl; omega); exact (HLX.out.own.blk h).2.1) hG hlm hnl hO hW 2 (fun _ => rfl) (fun u v j hj => cs2_far c B0 lz.length b0 A1 c1 A5 c5 u v j hj))
                have HS2 := Lib.hid hS33
                have HL2 := Lib.hid hlm
                clear hLX hFr2 hG hO hW hM hf hPs hOne hBs hge2 hnl
                go_wp2
                go_roundg (c.fo.length - (k + 1))
                case measure => have := HK.out; omega
                case rel => have hb9 := HKb.out; exact ⟨k + 1, _, _, _, HK.out, rfl, (by first | exact nxt9 hb9 | go_num), HS2, HP2, Lib.hid (by rw [HL2.out, List.map_append, HT.out, take_step HAk.out, List.map_append]; rfl)⟩
          · have hkl : decide ((k : Int) < c.fo.length) = false := by simp; omega
            have HTf : Hid (l.map Fo.pl = c.fo.map Fo.pl) := Lib.hid (by have h1 := HT.out; rw [List.take_of_length_le (by omega)] at h1; exact h1)
            obtain ⟨e0, e1, e2, e3, e4, e5, e6, e7, e8, e9⟩ : wr.cell? ⟨P, 0, none⟩ = some (.slice B0 lz.length b0) ∧ wr.cell? ⟨P, 1, none⟩ = some (.slice A1 c.au.length c1) ∧ wr.cell? ⟨P, 2, none⟩ = some (.slice A0 l.length c0) ∧ wr.cell? ⟨P, 3, none⟩ = some (.int .i64 c.W) ∧ wr.cell? ⟨P, 4, none⟩ = some (.int .i64 c.H) ∧ wr.cell? ⟨P, 5, none⟩ = some (.slice A5 c.wl.length c5) ∧ wr.cell? ⟨P, 6, none⟩ = some (.int .i64 c.dx) ∧ wr.cell? ⟨P, 7, none⟩ = some (.int .i64 c.dy) ∧ wr.cell? ⟨P, 8, none⟩ = some (.int .i64 c.lx) ∧ wr.cell? ⟨P, 9, none⟩ = some (.int .i64 c.ly) := ⟨HLX.out.box 0 _ rfl, HLX.out.box 1 _ rfl, HLX.out.box 2 _ rfl, HLX.out.box 3 _ rfl, HLX.out.box 4 _ rfl, HLX.out.box 5 _ rfl, HLX.out.box 6 _ rfl, HLX.out.box 7 _ rfl, HLX.out.box 8 _ rfl, HLX.out.box 9 _ rfl⟩
            have hR9 := (HW.out.block _ (lt_heap HRb.out)).trans HRb.out
            have z9 := cellOf hR9
            have y9 := frozOf hR9
            have HR9 := Lib.hid hR9
            clear hR9
            go_wp2
            refine bodyPost_ret (by simp [results, Tryz.results9, go_sem, z9]; try rfl) rfl ?_
            rw [ten0]
            have hav : Av V.heap.size P (.slice A0 l.length c0) (w.heap.size + 1) := .inl (lt_heap HRb.out)
            have hkp := Kp.setC (w := wr) hav 0 [.slice B0 lz.length b0, .slice A1 c.au.length c1, .slice A0 l.length c0, .int .i64 c.W, .int .i64 c.H, .slice A5 c.wl.length c5, .int .i64 c.dx, .int .i64 c.dy, .int .i64 c.lx, .int .i64 c.ly]
            have hkept := f2_stab _ _ _ _ _ _ _ _ _ _ _ HLX.out.kept hkp (fun _ _ h => h)
            have hown := HLX.out.own.pw.setC (b := w.heap.size + 1) (lt_heap HRb.out) 0 [.slice B0 lz.length b0, .slice A1 c.au.length c1, .slice A0 l.length c0, .int .i64 c.W, .int .i64 c.H, .slice A5 c.wl.length c5, .int .i64 c.dx, .int .i64 c.dy, .int .i64 c.lx, .int .i64 c.ly]
            refine ⟨⟨B0, b0, lz, A1, c1, c.au, A0, c0, l, c.W, c.H, A5, c5, c.wl, c.dx, c.dy, c.lx, c.ly⟩, rfl, Lib.hid ?_, Lib.hid ?_, ?_⟩
            · rw [Cn.pl_iff]; exact ⟨HTz.out, rfl, HTf.out, rfl, rfl, rfl, rfl, rfl, rfl, rfl⟩
            · exact ⟨hkept.1.rw', hkept.2.1.1.rw', hown.rw', rw_rb hkept.2.1.2.1.rw', fun a ha => (hkept.2.1.2.2 a ha).rw', fun f hf => (hkept.2.2 f hf).1.rw', fun f hf => (hkept.2.2 f hf).2.rw'⟩
            · exact below_setCells (w.heap.size + 1) (by omega) _ 0 _ (HB0.out.trans (HW.out.mono HB0.out.size))

end Go.Proofs.YtpjenkgimkndaaaGreat.Con.Rc
