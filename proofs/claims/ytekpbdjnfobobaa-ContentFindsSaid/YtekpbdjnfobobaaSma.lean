/-
  Contracts of bare and of small.
-/
import Derived.Test.YtekpbdjnfobobaaCpy
import Derived.Test.YtekpbdjnfobobaaRig
import Derived.Test.YtekpbdjnfobobaaSam
import Derived.Deep.RegionHeld3
import Derived.Laws.Rows
namespace Go.Proofs.Ytekpbdjnfobobaa.Con
open Go.RowKit Go.Maps

abbrev cB (b : Nat) : Cn := ⟨none, 0, [], none, 0, [], none, 0, [], 1, 1, some ⟨b, 0, none⟩, 1, [false], 0, 0, 0, 0⟩
abbrev aS (e : Nat) (ch : Int) : Ab := ⟨1, 0, 0, ch, 0, 0, false, some ⟨e, 0, none⟩, 1, [⟨1, 0, 0⟩]⟩
abbrev cS (b e : Nat) (ch : Int) : Cn := ⟨some ⟨e + 1, 0, none⟩, 1, [aS e ch], none, 0, [], none, 0, [], 1, 1, some ⟨b, 0, none⟩, 1, [false], 0, 0, 0, 0⟩
abbrev vB (b : Nat) : Value := .agg #[.slice none 0 0, .slice none 0 0, .slice none 0 0, .int .i64 1, .int .i64 1, .slice (some ⟨b, 0, none⟩) 1 1, .int .i64 0, .int .i64 0, .int .i64 0, .int .i64 0]
abbrev vS (b e : Nat) : Value := .agg #[.slice (some ⟨e + 1, 0, none⟩) 1 1, .slice none 0 0, .slice none 0 0, .int .i64 1, .int .i64 1, .slice (some ⟨b, 0, none⟩) 1 1, .int .i64 0, .int .i64 0, .int .i64 0, .int .i64 0]
abbrev oB (b : Nat) : Obj := .cells #[.slice none 0 0, .slice none 0 0, .slice none 0 0, .int .i64 1, .int .i64 1, .slice (some ⟨b, 0, none⟩) 1 1, .int .i64 0, .int .i64 0, .int .i64 0, .int .i64 0] 31
abbrev oS (b e : Nat) : Obj := .cells #[.slice (some ⟨e + 1, 0, none⟩) 1 1, .slice none 0 0, .slice none 0 0, .int .i64 1, .int .i64 1, .slice (some ⟨b, 0, none⟩) 1 1, .int .i64 0, .int .i64 0, .int .i64 0, .int .i64 0] 31
abbrev oE : Obj := .cells #[.int .i64 1, .int .i64 0, .int .i64 0] 56
abbrev oA (e : Nat) (ch : Int) : Obj := .cells #[.int .i64 1, .int .i64 0, .int .i64 0, .int .i64 ch, .int .i64 0, .int .i64 0, .bool false, .slice (some ⟨e, 0, none⟩) 1 1] 37
abbrev oW : Obj := .cells #[.bool false] 4

theorem bare_c (w : World) : Calls Try.prog 23 #[] w fun e w' => e = .returned (vB (w.heap.size + 1)) ∧ w'.heap[w.heap.size + 1]? = some oW ∧ w'.heap.size = w.heap.size + 1 + 1 ∧ Below w.heap.size w w' := by
  go_enter Try.func23, Try.ntmps23
  go_wp2
  refine bodyPost_ret (by simp [results, Try.results23, go_sem]; try rfl) rfl ?_
  refine ⟨rfl, ?_, by simp, by go_grown⟩
  have := heap_alloc_new (w.alloc (oB (w.heap.size + 1))) oW
  simpa using this

theorem fl_nil {α : Type} (ok : α → Prop) (id : α → Int) : Flaw ok id [] 0 0 none := rfl
theorem right_bare (b : Nat) : RightC (cB b) := ⟨fl_nil _ _, fl_nil _ _, fl_nil _ _, rfl, rfl, rfl⟩
theorem ab_ok (b e : Nat) : AbOk (cS b e 1) (aS e 1) := by
  refine ⟨by simp [Amt], by simp [Amt], by simp [Amt], by simp [Amt], by simp [In], by simp [In], ?_⟩
  intro x hx
  simp at hx
  subst hx
  exact .inr ⟨by decide, by simp [In], by simp [Amt], rfl⟩
theorem right_small (b e : Nat) : RightC (cS b e 1) := ⟨.inr ⟨by have := ab_ok b e; simp [this], rfl⟩, fl_nil _ _, fl_nil _ _, rfl, rfl, rfl⟩
theorem ckd_small (b e : Nat) : Ckd (cS b e 0) 1 0 false :=
  ⟨some 0, none, none, .inl ⟨.inr (.inr (fun h => by have := h.2.2.2.2.1; simp [In] at this)), rfl⟩, fl_nil _ _, fl_nil _ _, .inl ⟨0, rfl, rfl, rfl, rfl⟩⟩
theorem sm_bare (b : Nat) : Sm (cB b) := ⟨by simp, by simp, by simp, by simp, by simp, by simp, by simp⟩
theorem sm_small (b e : Nat) (ch : Int) : Sm (cS b e ch) := ⟨by simp, by simp, by simp, by simp, by simp, by simp, by simp⟩
theorem lt_of_heap {w : World} {b : Nat} {x : Obj} (h : w.heap[b]? = some x) : b < w.heap.size := (Array.getElem?_eq_some_iff.1 h).1
theorem rb_wall {w : World} {b : Nat} (h : w.heap[b]? = some oW) : RB w w.heap.size (some ⟨b, 0, none⟩) [false] := by
  refine .inr ⟨b, 0, rfl, lt_of_heap h, fun k x hk => ?_⟩
  cases k with
  | zero => simp at hk; subst hk; simp [World.cell?, h]
  | succ k => simp at hk
theorem rc_bare {w : World} {b : Nat} (h : w.heap[b]? = some oW) : RC w w.heap.size (cB b) :=
  ⟨.inl rfl, .inl rfl, .inl rfl, rb_wall h, fun a ha => by simp at ha, fun a ha => by simp at ha, fun a ha => by simp at ha⟩
/-- The small case's blocks. -/
structure Sn (w : World) (b e P : Nat) (ch : Int) : Prop where
  wl : w.heap[b]? = some oW
  ef : w.heap[e]? = some oE
  ab : w.heap[e + 1]? = some (oA e ch)
  bx : w.heap[P]? = some (oS b e)
theorem Sn.of {w w' : World} {b e P : Nat} {ch : Int} (h : Sn w b e P ch) (hb : Below w.heap.size w w') : Sn w' b e P ch :=
  ⟨(hb.block _ (lt_of_heap h.wl)).trans h.wl, (hb.block _ (lt_of_heap h.ef)).trans h.ef, (hb.block _ (lt_of_heap h.ab)).trans h.ab, (hb.block _ (lt_of_heap h.bx)).trans h.bx⟩
theorem Sn.rc {w : World} {b e P : Nat} {ch : Int} (h : Sn w b e P ch) : RC w w.heap.size (cS b e ch) := by
  refine ⟨.inr ⟨e + 1, 0, rfl, lt_of_heap h.ab, fun i x hx j v hv => ?_⟩, .inl rfl, .inl rfl, rb_wall h.wl, fun a ha => ?_, fun a ha => by simp at ha, fun a ha => by simp at ha⟩
  · cases i with
    | zero =>
      simp at hx; subst hx
      have h8 : (oA e ch) = .cells (encAb (aS e ch)).toArray 37 := rfl
      have h9 := h.ab
      rw [h8] at h9
      simp only [World.cell?, h9, Nat.zero_mul, Nat.zero_add]
      have hv' : (encAb (aS e ch))[j]? = some v := hv
      simpa using hv'
    | succ i => simp at hx
  · simp at ha; subst ha
    refine .inr ⟨e, 0, rfl, lt_of_heap h.ef, fun i x hx j v hv => ?_⟩
    cases i with
    | zero =>
      simp at hx; subst hx
      have h8 : oE = .cells (encEf ⟨1, 0, 0⟩).toArray 56 := rfl
      have h9 := h.ef
      rw [h8] at h9
      simp only [World.cell?, h9, Nat.zero_mul, Nat.zero_add]
      have hv' : (encEf ⟨1, 0, 0⟩)[j]? = some v := hv
      simpa using hv'
    | succ i => simp at hx
theorem sn_mid {w : World} {b P : Nat} (hb : w.heap[b]? = some oW) (hP : w.heap[P]? = some (oB b)) (hne : b ≠ P) : Sn (((w.setCell ⟨P, 0, none⟩ (.slice (some ⟨w.heap.size + 1, 0, none⟩) 1 1)).alloc oE).alloc (oA w.heap.size 0)) b w.heap.size P 0 := by
  have hbl := lt_of_heap hb
  have hPl := lt_of_heap hP
  have hs : (w.setCell ⟨P, 0, none⟩ (.slice (some ⟨w.heap.size + 1, 0, none⟩) 1 1)).heap.size = w.heap.size := by simp
  have h1 : (w.setCell ⟨P, 0, none⟩ (.slice (some ⟨w.heap.size + 1, 0, none⟩) 1 1)).heap[b]? = some oW := by rw [heap_setCell_other _ _ _ _ (by simpa using hne)]; exact hb
  have h2 := heap_setCell_same w P 0 _ 31 (.slice (some ⟨w.heap.size + 1, 0, none⟩) 1 1) hP
  generalize w.setCell ⟨P, 0, none⟩ (.slice (some ⟨w.heap.size + 1, 0, none⟩) 1 1) = V at *
  rw [← hs] at hbl hPl ⊢
  have q1 : Below V.heap.size V ((V.alloc oE).alloc (oA V.heap.size 0)) := by go_grown
  refine ⟨(q1.block _ hbl).trans h1, ?_, ?_, ?_⟩
  · rw [Below.heap_alloc _ _ _ (by simp)]; exact heap_alloc_new V _
  · have := heap_alloc_new (V.alloc oE) (oA V.heap.size 0); simpa using this
  · rw [← hs] at h2; exact (q1.block _ hPl).trans h2
theorem Sn.put {w : World} {b e P : Nat} (h : Sn w b e P 0) (h1 : b ≠ e + 1) (h2 : P ≠ e + 1) : Sn (w.setCell ⟨e + 1, 3, none⟩ (.int .i64 1)) b e P 1 := by
  refine ⟨?_, ?_, ?_, ?_⟩
  · rw [heap_setCell_other _ _ _ _ (by simpa using h1)]; exact h.wl
  · rw [heap_setCell_other _ _ _ _ (by simp)]; exact h.ef
  · exact heap_setCell_same _ (e + 1) 3 _ 37 _ h.ab
  · rw [heap_setCell_other _ _ _ _ (by simpa using h2)]; exact h.bx
theorem cell_of {w : World} {b : Nat} {cs : Array Value} {t : TypeId} (h : w.heap[b]? = some (.cells cs t (0, 0))) (o : Nat) : w.cell? ⟨b, o, none⟩ = cs[o]? := by simp [World.cell?, h]
theorem froz_of {w : World} {b : Nat} {cs : Array Value} {t : TypeId} (h : w.heap[b]? = some (.cells cs t (0, 0))) (o : Nat) : w.frozen? ⟨b, o, none⟩ = false := by simp [World.frozen?, h]
theorem right_vb (V : World) (b : Nat) (h : V.heap[b]? = some oW) : Calls Try.prog 20 #[vB b] V fun e w' => e = .returned (.bool true) ∧ Below V.heap.size V w' :=
  right_c (c := cB b) (rc_bare h) (Nat.le_refl _) (sm_bare b) true (by simp [right_bare b])
theorem check_vs (V : World) (b e P : Nat) (h : Sn V b e P 0) : Calls Try.prog 24 #[vS b e] V fun e w' => e = .returned (.tuple #[.agg #[.int .i64 1, .int .i64 0], .bool false]) ∧ Below V.heap.size V w' :=
  check_any (c := cS b e 0) h.rc (Nat.le_refl _) (sm_small b e 0) 1 0 false (ckd_small b e)
theorem right_vs (V : World) (b e P : Nat) (h : Sn V b e P 1) : Calls Try.prog 20 #[vS b e] V fun e w' => e = .returned (.bool true) ∧ Below V.heap.size V w' :=
  right_c (c := cS b e 1) h.rc (Nat.le_refl _) (sm_small b e 1) true (by simp [right_small b e])
theorem ability_vs (V : World) (b e P : Nat) (h : Sn V b e P 1) : Calls Try.prog 8 #[vS b e, .int .i64 1] V fun e w' => ∃ A' c', e = .returned (.tuple #[.agg #[.int .i64 1, .int .i64 0, .int .i64 0, .int .i64 1, .int .i64 0, .int .i64 0, .bool false, .slice A' 1 c'], .bool true]) ∧ Below V.heap.size V w' :=
  (ability_any (c := cS b e 1) h.rc (Nat.le_refl _) (sm_small b e 1) 1 (aS e 1) true (.inl ⟨rfl, 0, rfl, rfl, fun j _ hj => by omega⟩)).mono (by rintro e w' ⟨A', c', rfl, _, hB⟩; exact ⟨A', c', rfl, hB⟩)
theorem copy_vs (V : World) (b e P : Nat) (h : Sn V b e P 1) : Calls Try.prog 16 #[vS b e] V fun x w' => ∃ k : Cn, x = .returned (cnv k) ∧ Hid (k.pl = (cS b e 1).pl) ∧ Hid (PC w' V.heap.size k) ∧ Below V.heap.size V w' :=
  copy_c (cS b e 1) h.rc (Nat.le_refl _) (sm_small b e 1)
theorem same_vs (V : World) (b e P : Nat) (h : Sn V b e P 1) (k : Cn) (hk : k.pl = (cS b e 1).pl) (hp : RC V V.heap.size k) : Calls Try.prog 19 #[vS b e, cnv k] V fun e w' => e = .returned (.bool true) ∧ Below V.heap.size V w' :=
  same_c (cS b e 1) k h.rc hp (Nat.le_refl _) (sm_small b e 1) true (by simp [hk])
theorem eql_flaw (w : World) : (binOp .eql 60 (.agg #[.int .i64 1, .int .i64 0]) (.agg #[.int .i64 1, .int .i64 0])).run Try.prog w = .ok (.bool true) w := by simp [go_sem]


set_option maxRecDepth 40000 in
set_option maxHeartbeats 16000000 in
theorem small_c (w : World) : Calls Try.prog 5 #[] w fun e w' => e = .returned (.bool true) ∧ Below w.heap.size w w' := by
  go_enter Try.func5, Try.ntmps5
  go_wp2_with (first
    | ((with_reducible refine (bare_c _).mono ?_); rintro e w1 ⟨rfl, hw1, hz1, hB1⟩; have HB1 := Lib.hid hB1; have HW1 := Lib.hid hw1; have HZ1 := Lib.hid hz1; have HX1 : Hid ((w1.alloc (oB (w.heap.size + 1))).heap[w.heap.size + 1]? = some oW) := Lib.hid ((Below.heap_alloc _ _ _ (by rw [hz1]; omega)).trans hw1); clear hB1 hw1 hz1)
    | ((with_reducible refine (right_vb _ _ HX1.out).mono ?_); rintro e w2 ⟨rfl, hB2⟩; have hP2 : w2.heap[w1.heap.size]? = some (oB (w.heap.size + 1)) := (hB2.block _ (by simp)).trans (heap_alloc_new w1 _); have hb2 : w2.heap[w.heap.size + 1]? = some oW := (hB2.block _ (lt_of_heap HX1.out)).trans HX1.out; have z2 := cell_of hP2; have y2 := froz_of hP2; have hs2 : w1.heap.size < w2.heap.size := lt_of_heap hP2; have HSM := Lib.hid (sn_mid hb2 hP2 (by rw [HZ1.out]; omega)); have HB2 : Hid (Below w.heap.size w w2) := Lib.hid (bstep hB2 (HB1.out.alloc HB1.out.size _)); have HS2 := Lib.hid (And.intro hs2 (lt_of_heap hb2)); clear hP2 hb2 hB2)
    | ((with_reducible refine (check_vs _ _ _ _ HSM.out).mono ?_); rintro e w3 ⟨rfl, hB3⟩; have HS3 := Lib.hid (HSM.out.of hB3); have hp3 := HS3.out.bx; have ha3 := HS3.out.ab; have z3 := cell_of hp3; have y3 := froz_of hp3; have z4 := cell_of ha3; have y4 := froz_of ha3; have hs3 := lt_of_heap hp3; have hs4 := lt_of_heap ha3; have HB3 : Hid (Below w.heap.size w w3) := Lib.hid (bstep hB3 (by have h1 := HB2.out; have h2 := HB1.out.size; have h3 := HS2.out.1; go_grown)); have HN3 : Hid (Sn ((w3.setCell ⟨w2.heap.size + 1, 3, none⟩ (.int .i64 1)).alloc (.cells #[.int .i64 1, .int .i64 0] 60)) (w.heap.size + 1) w2.heap.size w1.heap.size 1) := Lib.hid ((HS3.out.put (by have := HS2.out.2; omega) (by have := HS2.out.1; omega)).of ((Below.refl _ _).alloc (Nat.le_refl _) _)); clear hp3 ha3 hB3 z2 y2)
    | ((with_reducible refine (ability_vs _ _ _ _ HN3.out).mono ?_); rintro e w5 ⟨A5, c5, rfl, hB5⟩; have HN5 := Lib.hid (HN3.out.of hB5); have HF5 : Hid (w5.heap[w3.heap.size]? = some (.cells #[.int .i64 1, .int .i64 0] 60)) := Lib.hid ((hB5.block _ (by simp)).trans (by have := heap_alloc_new (w3.setCell ⟨w2.heap.size + 1, 3, none⟩ (.int .i64 1)) (.cells #[.int .i64 1, .int .i64 0] 60); simpa using this)); have HB5 : Hid (Below w.heap.size w w5) := Lib.hid (bstep hB5 (by have h1 := HB3.out; have h2 := HB2.out.size; go_grown)); clear hB5))
  have HSN := Lib.hid (HN5.out.of ((Below.refl w5.heap.size w5).alloc (Nat.le_refl _) (.cells #[.int .i64 1, .int .i64 0, .int .i64 0, .int .i64 1, .int .i64 0, .int .i64 0, .bool false, .slice A5 1 c5] 37)))
  have HF6 := Lib.hid ((((Below.refl w5.heap.size w5).alloc (Nat.le_refl _) (.cells #[.int .i64 1, .int .i64 0, .int .i64 0, .int .i64 1, .int .i64 0, .int .i64 0, .bool false, .slice A5 1 c5] 37)).block _ (lt_of_heap HF5.out)).trans HF5.out)
  have HA6 := Lib.hid (heap_alloc_new w5 (.cells #[.int .i64 1, .int .i64 0, .int .i64 0, .int .i64 1, .int .i64 0, .int .i64 0, .bool false, .slice A5 1 c5] 37))
  have HB6 : Hid (Below w.heap.size w (w5.alloc (.cells #[.int .i64 1, .int .i64 0, .int .i64 0, .int .i64 1, .int .i64 0, .int .i64 0, .bool false, .slice A5 1 c5] 37))) := Lib.hid (HB5.out.alloc HB5.out.size _)
  generalize hP3 : w5.heap.size = P3 at *
  generalize w5.alloc (.cells #[.int .i64 1, .int .i64 0, .int .i64 0, .int .i64 1, .int .i64 0, .int .i64 0, .bool false, .slice A5 1 c5] 37) = V at *
  have HC : Hid (∀ wz, Below V.heap.size V wz → wz.cell? ⟨w1.heap.size, 0, none⟩ = some (.slice (some ⟨w2.heap.size + 1, 0, none⟩) 1 1) ∧ wz.cell? ⟨w1.heap.size, 1, none⟩ = some (.slice none 0 0) ∧ wz.cell? ⟨w1.heap.size, 2, none⟩ = some (.slice none 0 0) ∧ wz.cell? ⟨w1.heap.size, 3, none⟩ = some (.int .i64 1) ∧ wz.cell? ⟨w1.heap.size, 4, none⟩ = some (.int .i64 1) ∧ wz.cell? ⟨w1.heap.size, 5, none⟩ = some (.slice (some ⟨w.heap.size + 1, 0, none⟩) 1 1) ∧ wz.cell? ⟨w1.heap.size, 6, none⟩ = some (.int .i64 0) ∧ wz.cell? ⟨w1.heap.size, 7, none⟩ = some (.int .i64 0) ∧ wz.cell? ⟨w1.heap.size, 8, none⟩ = some (.int .i64 0) ∧ wz.cell? ⟨w1.heap.size, 9, none⟩ = some (.int .i64 0) ∧ wz.cell? ⟨w3.heap.size, 0, none⟩ = some (.int .i64 1) ∧ wz.cell? ⟨w3.heap.size, 1, none⟩ = some (.int .i64 0) ∧ wz.cell? ⟨P3, 7, none⟩ = some (.slice A5 1 c5)) := Lib.hid (fun wz hz => by
    have k1 := fun o => (cell_of (HSN.out.of hz).bx) o
    have k2 := fun o => cell_of ((hz.block _ (lt_of_heap HF6.out)).trans HF6.out) o
    have k3 := fun o => cell_of ((hz.block _ (lt_of_heap HA6.out)).trans HA6.out) o
    exact ⟨k1 0, k1 1, k1 2, k1 3, k1 4, k1 5, k1 6, k1 7, k1 8, k1 9, k2 0, k2 1, k3 7⟩)
  have hS0 : Below V.heap.size V V.drew := (Below.refl _ _).drew
  refine wp_region_noPanic ?_
  refine wp_region_held_drew (S := fun w' => Below V.heap.size V w') (by kernel_rfl) hS0 (fun _ => ?_)
  have heq := eql_flaw
  refine wpAnyH_take (i := 0) (oi := ⟨some 29, Op.move (Operand.tmp 2), 4, _, _, none⟩) (v := ?va0) rfl (by kernel_rfl) (by kernel_rfl) (by kernel_rfl) (fun _ _ _ h => h) (Or.inl ⟨by rfl, ?ha0⟩) hS0 ?ra0
  case ha0 => (intro wz hSw; go_simp <;> with_reducible rfl)
  (try simp only [Act.put, List.setIfInBounds_toArray, List.set_cons_zero, List.set_cons_succ])
  refine wpAnyH_take (i := 1) (oi := ⟨some 30, Op.move (Operand.tmp 29), 4, _, _, none⟩) (v := ?va1) rfl (by kernel_rfl) (by kernel_rfl) (by kernel_rfl) (fun _ _ _ h => h) (Or.inl ⟨by rfl, ?ha1⟩) hS0 ?ra1
  case ha1 => (intro wz hSw; go_simp <;> with_reducible rfl)
  (try simp only [Act.put, List.setIfInBounds_toArray, List.set_cons_zero, List.set_cons_succ])
  refine wpAnyH_take (i := 2) (oi := ⟨some 31, Op.move (Operand.tmp 4), 4, _, _, some (1, true)⟩) (v := ?va2) rfl (by kernel_rfl) (by kernel_rfl) (by kernel_rfl) (fun _ _ _ h => h) (Or.inl ⟨by rfl, ?ha2⟩) hS0 ?ra2
  case ha2 => (intro wz hSw; go_simp <;> with_reducible rfl)
  (try simp only [Act.put, List.setIfInBounds_toArray, List.set_cons_zero, List.set_cons_succ])
  refine wpAnyH_take (i := 3) (oi := ⟨some 32, Op.unOp UnOp.not 4 (Operand.tmp 31), 4, _, _, some (1, true)⟩) (v := ?va3) rfl (by kernel_rfl) (by kernel_rfl) (by kernel_rfl) (fun _ _ _ h => h) (Or.inl ⟨by rfl, ?ha3⟩) hS0 ?ra3
  case ha3 => (intro wz hSw; go_simp <;> with_reducible rfl)
  (try simp only [Act.put, List.setIfInBounds_toArray, List.set_cons_zero, List.set_cons_succ])
  refine wpAnyH_take (i := 4) (oi := ⟨some 33, Op.pick (Operand.tmp 30) (Operand.tmp 32) (Operand.const (Value.bool false)), 4, _, _, none⟩) (v := ?va4) rfl (by kernel_rfl) (by kernel_rfl) (by kernel_rfl) (fun _ _ _ h => h) (Or.inl ⟨by rfl, ?ha4⟩) hS0 ?ra4
  case ha4 => (intro wz hSw; go_simp <;> with_reducible rfl)
  (try simp only [Act.put, List.setIfInBounds_toArray, List.set_cons_zero, List.set_cons_succ])
  refine wpAnyH_take (i := 5) (oi := ⟨some 34, Op.move (Operand.tmp 33), 4, _, _, none⟩) (v := ?va5) rfl (by kernel_rfl) (by kernel_rfl) (by kernel_rfl) (fun _ _ _ h => h) (Or.inl ⟨by rfl, ?ha5⟩) hS0 ?ra5
  case ha5 => (intro wz hSw; go_simp <;> with_reducible rfl)
  (try simp only [Act.put, List.setIfInBounds_toArray, List.set_cons_zero, List.set_cons_succ])
  refine wpAnyH_take (i := 6) (oi := ⟨some 35, Op.load 60 (Operand.tmp 3), 60, _, _, some (5, true)⟩) (v := ?va6) rfl (by kernel_rfl) (by kernel_rfl) (by kernel_rfl) (fun _ _ _ h => h) (Or.inl ⟨by rfl, ?ha6⟩) hS0 ?ra6
  case ha6 => (intro wz hSw; obtain ⟨d0, d1, d2, d3, d4, d5, d6, d7, d8, d9, f0, f1, g7⟩ := HC.out wz hSw; go_simp <;> with_reducible rfl)
  (try simp only [Act.put, List.setIfInBounds_toArray, List.set_cons_zero, List.set_cons_succ])
  refine wpAnyH_take (i := 7) (oi := ⟨some 36, Op.build 60 #[(0, Operand.const (Value.int IntKind.i64 1))], 60, _, _, some (5, true)⟩) (v := ?va7) rfl (by kernel_rfl) (by kernel_rfl) (by kernel_rfl) (fun _ _ _ h => h) (Or.inl ⟨by rfl, ?ha7⟩) hS0 ?ra7
  case ha7 => (intro wz hSw; go_simp <;> with_reducible rfl)
  (try simp only [Act.put, List.setIfInBounds_toArray, List.set_cons_zero, List.set_cons_succ])
  refine wpAnyH_take (i := 8) (oi := ⟨some 37, Op.binOp BinOp.eql 60 (Operand.tmp 35) (Operand.tmp 36) 60, 4, _, _, some (5, true)⟩) (v := ?va8) rfl (by kernel_rfl) (by kernel_rfl) (by kernel_rfl) (fun _ _ _ h => h) (Or.inl ⟨by rfl, ?ha8⟩) hS0 ?ra8
  case ha8 => (intro wz hSw; go_simp <;> with_reducible rfl)
  (try simp only [Act.put, List.setIfInBounds_toArray, List.set_cons_zero, List.set_cons_succ])
  refine wpAnyH_take (i := 9) (oi := ⟨some 38, Op.pick (Operand.tmp 34) (Operand.tmp 37) (Operand.const (Value.bool false)), 4, _, _, none⟩) (v := ?va9) rfl (by kernel_rfl) (by kernel_rfl) (by kernel_rfl) (fun _ _ _ h => h) (Or.inl ⟨by rfl, ?ha9⟩) hS0 ?ra9
  case ha9 => (intro wz hSw; go_simp <;> with_reducible rfl)
  (try simp only [Act.put, List.setIfInBounds_toArray, List.set_cons_zero, List.set_cons_succ])
  refine wpAnyH_take (i := 10) (oi := ⟨some 39, Op.move (Operand.tmp 38), 4, _, _, none⟩) (v := ?va10) rfl (by kernel_rfl) (by kernel_rfl) (by kernel_rfl) (fun _ _ _ h => h) (Or.inl ⟨by rfl, ?ha10⟩) hS0 ?ra10
  case ha10 => (intro wz hSw; go_simp <;> with_reducible rfl)
  (try simp only [Act.put, List.setIfInBounds_toArray, List.set_cons_zero, List.set_cons_succ])
  refine wpAnyH_take (i := 11) (oi := ⟨some 40, Op.load 31 (Operand.tmp 1), 31, _, _, some (10, true)⟩) (v := ?va11) rfl (by kernel_rfl) (by kernel_rfl) (by kernel_rfl) (fun _ _ _ h => h) (Or.inl ⟨by rfl, ?ha11⟩) hS0 ?ra11
  case ha11 => (intro wz hSw; obtain ⟨d0, d1, d2, d3, d4, d5, d6, d7, d8, d9, f0, f1, g7⟩ := HC.out wz hSw; go_simp <;> with_reducible rfl)
  (try simp only [Act.put, List.setIfInBounds_toArray, List.set_cons_zero, List.set_cons_succ])
  refine wpAnyH_ready (rs := [12]) (by kernel_rfl) (by simp) ?_
  refine AllReadyH.cons (o := ⟨some 41, Op.call { callee := Callee.value (Operand.func 20), args := #[Operand.tmp 40], argTypes := #[31] }, 4, _, _, some (10, true)⟩) rfl (fun K hK => ?_) AllReadyH.nil
  go_simp
  (with_reducible refine (right_vs _ _ _ _ (HSN.out.of hS0)).mono ?_); rintro e v1 ⟨rfl, hB1⟩; have hS1 := bstep hB1 hS0
  refine hK.out _ _ hS1 (fun _ => ?_)
  clear hK K
  (try simp only [Act.put, List.setIfInBounds_toArray, List.set_cons_zero, List.set_cons_succ])
  refine wpAnyH_take (i := 13) (oi := ⟨some 42, Op.pick (Operand.tmp 39) (Operand.tmp 41) (Operand.const (Value.bool false)), 4, _, _, none⟩) (v := ?va13) rfl (by kernel_rfl) (by kernel_rfl) (by kernel_rfl) (fun _ _ _ h => h) (Or.inl ⟨by rfl, ?ha13⟩) hS1 ?ra13
  case ha13 => (intro wz hSw; go_simp <;> with_reducible rfl)
  (try simp only [Act.put, List.setIfInBounds_toArray, List.set_cons_zero, List.set_cons_succ])
  refine wpAnyH_take (i := 14) (oi := ⟨some 43, Op.move (Operand.tmp 42), 4, _, _, none⟩) (v := ?va14) rfl (by kernel_rfl) (by kernel_rfl) (by kernel_rfl) (fun _ _ _ h => h) (Or.inl ⟨by rfl, ?ha14⟩) hS1 ?ra14
  case ha14 => (intro wz hSw; go_simp <;> with_reducible rfl)
  (try simp only [Act.put, List.setIfInBounds_toArray, List.set_cons_zero, List.set_cons_succ])
  refine wpAnyH_take (i := 15) (oi := ⟨some 44, Op.move (Operand.tmp 6), 4, _, _, some (14, true)⟩) (v := ?va15) rfl (by kernel_rfl) (by kernel_rfl) (by kernel_rfl) (fun _ _ _ h => h) (Or.inl ⟨by rfl, ?ha15⟩) hS1 ?ra15
  case ha15 => (intro wz hSw; go_simp <;> with_reducible rfl)
  (try simp only [Act.put, List.setIfInBounds_toArray, List.set_cons_zero, List.set_cons_succ])
  refine wpAnyH_take (i := 16) (oi := ⟨some 45, Op.pick (Operand.tmp 43) (Operand.tmp 44) (Operand.const (Value.bool false)), 4, _, _, none⟩) (v := ?va16) rfl (by kernel_rfl) (by kernel_rfl) (by kernel_rfl) (fun _ _ _ h => h) (Or.inl ⟨by rfl, ?ha16⟩) hS1 ?ra16
  case ha16 => (intro wz hSw; go_simp <;> with_reducible rfl)
  (try simp only [Act.put, List.setIfInBounds_toArray, List.set_cons_zero, List.set_cons_succ])
  refine wpAnyH_take (i := 17) (oi := ⟨some 46, Op.move (Operand.tmp 45), 4, _, _, none⟩) (v := ?va17) rfl (by kernel_rfl) (by kernel_rfl) (by kernel_rfl) (fun _ _ _ h => h) (Or.inl ⟨by rfl, ?ha17⟩) hS1 ?ra17
  case ha17 => (intro wz hSw; go_simp <;> with_reducible rfl)
  (try simp only [Act.put, List.setIfInBounds_toArray, List.set_cons_zero, List.set_cons_succ])
  refine wpAnyH_take (i := 18) (oi := ⟨some 47, Op.fieldAddr 37 (Operand.tmp 5) 7, 0, _, _, some (17, true)⟩) (v := ?va18) rfl (by kernel_rfl) (by kernel_rfl) (by kernel_rfl) (fun _ _ _ h => h) (Or.inl ⟨by rfl, ?ha18⟩) hS1 ?ra18
  case ha18 => (intro wz hSw; go_simp <;> with_reducible rfl)
  (try simp only [Act.put, List.setIfInBounds_toArray, List.set_cons_zero, List.set_cons_succ])
  refine wpAnyH_take (i := 19) (oi := ⟨some 48, Op.load 35 (Operand.tmp 47), 35, _, _, some (17, true)⟩) (v := ?va19) rfl (by kernel_rfl) (by kernel_rfl) (by kernel_rfl) (fun _ _ _ h => h) (Or.inl ⟨by rfl, ?ha19⟩) hS1 ?ra19
  case ha19 => (intro wz hSw; obtain ⟨d0, d1, d2, d3, d4, d5, d6, d7, d8, d9, f0, f1, g7⟩ := HC.out wz hSw; go_simp <;> with_reducible rfl)
  (try simp only [Act.put, List.setIfInBounds_toArray, List.set_cons_zero, List.set_cons_succ])
  refine wpAnyH_take (i := 20) (oi := ⟨some 49, Op.call { callee := Callee.builtin Builtin.len, args := #[Operand.tmp 48], argTypes := #[35] }, 3, _, _, some (17, true)⟩) (v := ?va20) rfl (by kernel_rfl) (by kernel_rfl) (by kernel_rfl) (fun _ _ _ h => h) (Or.inl ⟨by rfl, ?ha20⟩) hS1 ?ra20
  case ha20 => (intro wz hSw; go_simp <;> with_reducible rfl)
  (try simp only [Act.put, List.setIfInBounds_toArray, List.set_cons_zero, List.set_cons_succ])
  refine wpAnyH_take (i := 21) (oi := ⟨some 50, Op.binOp BinOp.eql 3 (Operand.tmp 49) (Operand.const (Value.int IntKind.i64 1)) 3, 4, _, _, some (17, true)⟩) (v := ?va21) rfl (by kernel_rfl) (by kernel_rfl) (by kernel_rfl) (fun _ _ _ h => h) (Or.inl ⟨by rfl, ?ha21⟩) hS1 ?ra21
  case ha21 => (intro wz hSw; go_simp <;> with_reducible rfl)
  (try simp only [Act.put, List.setIfInBounds_toArray, List.set_cons_zero, List.set_cons_succ])
  refine wpAnyH_take (i := 22) (oi := ⟨some 51, Op.pick (Operand.tmp 46) (Operand.tmp 50) (Operand.const (Value.bool false)), 4, _, _, none⟩) (v := ?va22) rfl (by kernel_rfl) (by kernel_rfl) (by kernel_rfl) (fun _ _ _ h => h) (Or.inl ⟨by rfl, ?ha22⟩) hS1 ?ra22
  case ha22 => (intro wz hSw; go_simp <;> with_reducible rfl)
  (try simp only [Act.put, List.setIfInBounds_toArray, List.set_cons_zero, List.set_cons_succ])
  refine wpAnyH_take (i := 23) (oi := ⟨some 52, Op.move (Operand.tmp 51), 4, _, _, none⟩) (v := ?va23) rfl (by kernel_rfl) (by kernel_rfl) (by kernel_rfl) (fun _ _ _ h => h) (Or.inl ⟨by rfl, ?ha23⟩) hS1 ?ra23
  case ha23 => (intro wz hSw; go_simp <;> with_reducible rfl)
  (try simp only [Act.put, List.setIfInBounds_toArray, List.set_cons_zero, List.set_cons_succ])
  refine wpAnyH_take (i := 24) (oi := ⟨some 53, Op.load 31 (Operand.tmp 1), 31, _, _, some (23, true)⟩) (v := ?va24) rfl (by kernel_rfl) (by kernel_rfl) (by kernel_rfl) (fun _ _ _ h => h) (Or.inl ⟨by rfl, ?ha24⟩) hS1 ?ra24
  case ha24 => (intro wz hSw; obtain ⟨d0, d1, d2, d3, d4, d5, d6, d7, d8, d9, f0, f1, g7⟩ := HC.out wz hSw; go_simp <;> with_reducible rfl)
  (try simp only [Act.put, List.setIfInBounds_toArray, List.set_cons_zero, List.set_cons_succ])
  refine wpAnyH_take (i := 25) (oi := ⟨some 54, Op.load 31 (Operand.tmp 1), 31, _, _, some (23, true)⟩) (v := ?va25) rfl (by kernel_rfl) (by kernel_rfl) (by kernel_rfl) (fun _ _ _ h => h) (Or.inl ⟨by rfl, ?ha25⟩) hS1 ?ra25
  case ha25 => (intro wz hSw; obtain ⟨d0, d1, d2, d3, d4, d5, d6, d7, d8, d9, f0, f1, g7⟩ := HC.out wz hSw; go_simp <;> with_reducible rfl)
  (try simp only [Act.put, List.setIfInBounds_toArray, List.set_cons_zero, List.set_cons_succ])
  refine wpAnyH_ready (rs := [26]) (by kernel_rfl) (by simp) ?_
  refine AllReadyH.cons (o := ⟨some 55, Op.call { callee := Callee.value (Operand.func 16), args := #[Operand.tmp 54], argTypes := #[31] }, 31, _, _, some (23, true)⟩) rfl (fun K hK => ?_) AllReadyH.nil
  go_simp
  (with_reducible refine (copy_vs _ _ _ _ (HSN.out.of hS1)).mono ?_); rintro e v2 ⟨k, rfl, HK, HPC, hB2⟩; have hS2 := bstep hB2 hS1
  refine hK.out _ _ hS2 (fun _ => ?_)
  clear hK K
  (try simp only [Act.put, List.setIfInBounds_toArray, List.set_cons_zero, List.set_cons_succ])
  refine wpAnyH_ready (rs := [27]) (by kernel_rfl) (by simp) ?_
  refine AllReadyH.cons (o := ⟨some 56, Op.call { callee := Callee.value (Operand.func 19), args := #[Operand.tmp 53, Operand.tmp 55], argTypes := #[31, 31] }, 4, _, _, some (23, true)⟩) rfl (fun K hK => ?_) AllReadyH.nil
  go_simp
  (with_reducible refine (same_vs _ _ _ _ (HSN.out.of hS2) k HK.out HPC.out.rc).mono ?_); rintro e v3 ⟨rfl, hB3⟩; have hS3 := bstep hB3 hS2
  refine hK.out _ _ hS3 (fun _ => ?_)
  clear hK K
  (try simp only [Act.put, List.setIfInBounds_toArray, List.set_cons_zero, List.set_cons_succ])
  refine wpAnyH_take (i := 28) (oi := ⟨some 57, Op.pick (Operand.tmp 52) (Operand.tmp 56) (Operand.const (Value.bool false)), 4, _, _, none⟩) (v := ?va28) rfl (by kernel_rfl) (by kernel_rfl) (by kernel_rfl) (fun _ _ _ h => h) (Or.inl ⟨by rfl, ?ha28⟩) hS3 ?ra28
  case ha28 => (intro wz hSw; go_simp <;> with_reducible rfl)
  (try simp only [Act.put, List.setIfInBounds_toArray, List.set_cons_zero, List.set_cons_succ])
  refine wpAnyH_take (i := 29) (oi := ⟨some 0, Op.assign (Operand.tmp 57), 4, _, _, none⟩) (v := ?va29) rfl (by kernel_rfl) (by kernel_rfl) (by kernel_rfl) (fun _ _ _ h => h) (Or.inl ⟨by rfl, ?ha29⟩) hS3 ?ra29
  case ha29 => (intro wz hSw; go_simp <;> with_reducible rfl)
  (try simp only [Act.put, List.setIfInBounds_toArray, List.set_cons_zero])
  refine wpAnyH_done (by kernel_rfl) ?_ _
  refine NoPanic.normal ?_
  have hSL := hS3
  go_wp2
  go_ret
  exact ⟨rfl, HB6.out.trans (hSL.mono HB6.out.size)⟩

end Go.Proofs.Ytekpbdjnfobobaa.Con
