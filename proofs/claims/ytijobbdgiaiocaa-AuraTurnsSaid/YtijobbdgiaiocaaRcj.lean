/-
  Contract of the document's own foe: which foes are right.
-/
import Derived.Test.YtijobbdgiaiocaaRci
import Derived.Deep.RegionHeld3
namespace Go.Proofs.Ytijobbdgiaiocaa.Con
open Go.RowKit Go.Maps

theorem fo_bad {c : Cn} {f : Fo} {x : Bool} (hx : x = true ↔ FoOk c f) (h : ¬ FoOk c f) : x = false := by
  cases x with
  | false => rfl
  | true => exact absurd (hx.1 rfl) h
theorem rowLn1 {w W : World} {B B' : Nat} {A : Option Addr} {l : List Ln} (hr : RW ln w B A l) {k : Nat} {x : Ln} (hx : l[k]? = some x) (hb : Below B' w W) (hB : B ≤ B') {p off : Nat} (hA : A = some ⟨p, off, none⟩) :
    W.cell? ⟨p, off + k * 5, none⟩ = some (.int .i64 x.phase) ∧ W.cell? ⟨p, off + k * 5 + 1, none⟩ = some (.int .i64 x.whn) ∧ W.cell? ⟨p, off + k * 5 + 2, none⟩ = some (.int .i64 x.arg) ∧ W.cell? ⟨p, off + k * 5 + 3, none⟩ = some (.int .i64 x.dos) ∧ W.cell? ⟨p, off + k * 5 + 4, none⟩ = some (.int .i64 x.value) := by
  obtain ⟨p2, off2, hA2, _, q⟩ := rowLn hr hx hb hB
  rw [hA] at hA2; injection hA2 with e; injection e with e1 e2; subst e1; subst e2
  exact q
theorem mem_next1 {α : Type} {P : α → Prop} {l : List α} {k : Nat} {x : α} (h : l[k]? = some x) (hx : P x) (hl : ∀ y ∈ l.take k, P y) : ∀ y ∈ l.take (k + 1), P y := by
  intro y hy
  rw [List.take_add_one, h] at hy
  rcases List.mem_append.1 hy with hy | hy
  · exact hl y hy
  · simp at hy; subst hy; exact hx
set_option maxRecDepth 20000 in
set_option maxHeartbeats 32000000 in
theorem rfoe1 {w : World} {B : Nat} {c : Cn} (hr : RC w B c) (hB : B ≤ w.heap.size) (hs : Sm c) (f : Fo) (h1 : RW ln w B f.sa f.script) (h2 : RW pz w B f.ha f.hoard) (x : Bool) (hx : x = true ↔ FoOk c f) : Calls Try.prog 74 #[cnv c, fov f] w fun e w' => e = .returned (.bool x) ∧ Below w.heap.size w w' := by
  have hb : Below w.heap.size w ((w.alloc (oCn c)).alloc (.cells #[.int .i64 f.id, .int .i64 f.health, .int .i64 f.hit, .int .i64 f.every, .int .i64 f.reach, .slice f.sa f.script.length f.sc, .slice f.ha f.hoard.length f.hc, .int .i64 f.drops] 66)) := by go_grown
  have HB := Lib.hid hb; have HX := Lib.hid hx; have HBw := Lib.hid (Nat.le_trans hB hb.size)
  have HR := Lib.hid (hr.below hb hB); have HE := Lib.hid (h1.below hb hB); have HP := Lib.hid (h2.below hb hB); have HS := Lib.hid hs
  have HC0 : Hid (((w.alloc (oCn c)).alloc (.cells #[.int .i64 f.id, .int .i64 f.health, .int .i64 f.hit, .int .i64 f.every, .int .i64 f.reach, .slice f.sa f.script.length f.sc, .slice f.ha f.hoard.length f.hc, .int .i64 f.drops] 66)).heap[w.heap.size]? = some (oCn c)) := Lib.hid ((Below.heap_alloc _ _ _ (by simp)).trans (heap_alloc_new w _))
  have HA0 : Hid (((w.alloc (oCn c)).alloc (.cells #[.int .i64 f.id, .int .i64 f.health, .int .i64 f.hit, .int .i64 f.every, .int .i64 f.reach, .slice f.sa f.script.length f.sc, .slice f.ha f.hoard.length f.hc, .int .i64 f.drops] 66)).heap[w.heap.size + 1]? = some (.cells #[.int .i64 f.id, .int .i64 f.health, .int .i64 f.hit, .int .i64 f.every, .int .i64 f.reach, .slice f.sa f.script.length f.sc, .slice f.ha f.hoard.length f.hc, .int .i64 f.drops] 66)) := Lib.hid (by have := heap_alloc_new (w.alloc (oCn c)) (.cells #[.int .i64 f.id, .int .i64 f.health, .int .i64 f.hit, .int .i64 f.every, .int .i64 f.reach, .slice f.sa f.script.length f.sc, .slice f.ha f.hoard.length f.hc, .int .i64 f.drops] 66); simpa using this)
  clear hb hx hr h1 h2 hs hB
  by_cases g0 : In f.health 1 1000000
  rotate_left
  · skip
    have G0 := Lib.hid (amt_all f.health 1 false (by simp [g0])); have K0 := Lib.hid g0; clear g0
    have hxf := fo_bad HX.out (fun h => K0.out h.1)
    clear HX; subst hxf
    go_enter Try.func74, Try.ntmps74
    go_wp2_with (first | ((with_reducible refine (G0.out _).mono ?_); rintro e w' ⟨rfl, rfl⟩))
    go_ret
    exact ⟨rfl, HB.out⟩
  have G0 := Lib.hid (amt_all f.health 1 true (by simp [g0])); have K0 := Lib.hid g0; clear g0
  by_cases g1 : In f.hit 0 1000000
  rotate_left
  · skip
    have G1 := Lib.hid (amt_all f.hit 0 false (by simp [g1])); have K1 := Lib.hid g1; clear g1
    have hxf := fo_bad HX.out (fun h => K1.out h.2.1)
    clear HX; subst hxf
    go_enter Try.func74, Try.ntmps74
    go_wp2_with (first | ((with_reducible refine (G0.out _).mono ?_); rintro e w' ⟨rfl, rfl⟩) | ((with_reducible refine (G1.out _).mono ?_); rintro e w' ⟨rfl, rfl⟩))
    go_ret
    exact ⟨rfl, HB.out⟩
  have G1 := Lib.hid (amt_all f.hit 0 true (by simp [g1])); have K1 := Lib.hid g1; clear g1
  by_cases g2 : In f.reach 0 1000000
  rotate_left
  · skip
    have G2 := Lib.hid (amt_all f.reach 0 false (by simp [g2])); have K2 := Lib.hid g2; clear g2
    have hxf := fo_bad HX.out (fun h => K2.out h.2.2.1)
    clear HX; subst hxf
    go_enter Try.func74, Try.ntmps74
    go_wp2_with (first | ((with_reducible refine (G0.out _).mono ?_); rintro e w' ⟨rfl, rfl⟩) | ((with_reducible refine (G1.out _).mono ?_); rintro e w' ⟨rfl, rfl⟩) | ((with_reducible refine (G2.out _).mono ?_); rintro e w' ⟨rfl, rfl⟩))
    go_ret
    exact ⟨rfl, HB.out⟩
  have G2 := Lib.hid (amt_all f.reach 0 true (by simp [g2])); have K2 := Lib.hid g2; clear g2
  by_cases g3 : In f.every 1 1000000
  rotate_left
  · skip
    have G3 := Lib.hid (amt_all f.every 1 false (by simp [g3])); have K3 := Lib.hid g3; clear g3
    have hxf := fo_bad HX.out (fun h => K3.out h.2.2.2.1)
    clear HX; subst hxf
    go_enter Try.func74, Try.ntmps74
    go_wp2_with (first | ((with_reducible refine (G0.out _).mono ?_); rintro e w' ⟨rfl, rfl⟩) | ((with_reducible refine (G1.out _).mono ?_); rintro e w' ⟨rfl, rfl⟩) | ((with_reducible refine (G2.out _).mono ?_); rintro e w' ⟨rfl, rfl⟩) | ((with_reducible refine (G3.out _).mono ?_); rintro e w' ⟨rfl, rfl⟩))
    go_ret
    exact ⟨rfl, HB.out⟩
  have G3 := Lib.hid (amt_all f.every 1 true (by simp [g3])); have K3 := Lib.hid g3; clear g3
  by_cases g4 : 0 ≤ f.drops
  rotate_left
  · skip
    have t4 : decide (f.drops < 0) = true := by simp; omega
    have hxf := fo_bad HX.out (fun h => by have u1 := h.2.2.2.2.1.2.1.1; first | exact g4 u1 | exact g4 (by exact_mod_cast u1) | omega)
    clear HX; subst hxf
    go_enter Try.func74, Try.ntmps74
    go_wp2_with (first | ((with_reducible refine (G0.out _).mono ?_); rintro e w' ⟨rfl, rfl⟩) | ((with_reducible refine (G1.out _).mono ?_); rintro e w' ⟨rfl, rfl⟩) | ((with_reducible refine (G2.out _).mono ?_); rintro e w' ⟨rfl, rfl⟩) | ((with_reducible refine (G3.out _).mono ?_); rintro e w' ⟨rfl, rfl⟩))
    go_ret
    exact ⟨rfl, HB.out⟩
  have t4 : decide (f.drops < 0) = false := by simp; omega
  have K4 := Lib.hid g4
  by_cases g5 : f.drops ≤ 16
  rotate_left
  · skip
    have t5 : decide (f.drops > 16) = true := by simp; omega
    have hxf := fo_bad HX.out (fun h => by have u1 := h.2.2.2.2.1.2.1.2; first | exact g5 u1 | exact g5 (by exact_mod_cast u1) | omega)
    clear HX; subst hxf
    go_enter Try.func74, Try.ntmps74
    go_wp2_with (first | ((with_reducible refine (G0.out _).mono ?_); rintro e w' ⟨rfl, rfl⟩) | ((with_reducible refine (G1.out _).mono ?_); rintro e w' ⟨rfl, rfl⟩) | ((with_reducible refine (G2.out _).mono ?_); rintro e w' ⟨rfl, rfl⟩) | ((with_reducible refine (G3.out _).mono ?_); rintro e w' ⟨rfl, rfl⟩))
    go_ret
    exact ⟨rfl, HB.out⟩
  have t5 : decide (f.drops > 16) = false := by simp; omega
  have K5 := Lib.hid g5
  by_cases g6 : (f.script.length : Int) ≤ 16
  rotate_left
  · skip
    have t6 : decide ((f.script.length : Int) > 16) = true := by simp; omega
    have hxf := fo_bad HX.out (fun h => by have u1 := h.2.2.2.2.2.1; first | exact g6 u1 | exact g6 (by exact_mod_cast u1) | omega)
    clear HX; subst hxf
    go_enter Try.func74, Try.ntmps74
    go_wp2_with (first | ((with_reducible refine (G0.out _).mono ?_); rintro e w' ⟨rfl, rfl⟩) | ((with_reducible refine (G1.out _).mono ?_); rintro e w' ⟨rfl, rfl⟩) | ((with_reducible refine (G2.out _).mono ?_); rintro e w' ⟨rfl, rfl⟩) | ((with_reducible refine (G3.out _).mono ?_); rintro e w' ⟨rfl, rfl⟩))
    go_ret
    exact ⟨rfl, HB.out⟩
  have t6 : decide ((f.script.length : Int) > 16) = false := by simp; omega
  have K6 := Lib.hid g6
  by_cases g7 : (f.hoard.length : Int) ≤ 16
  rotate_left
  · skip
    have t7 : decide ((f.hoard.length : Int) > 16) = true := by simp; omega
    have hxf := fo_bad HX.out (fun h => by have u1 := h.2.2.2.2.1.2.2.1; first | exact g7 u1 | exact g7 (by exact_mod_cast u1) | omega)
    clear HX; subst hxf
    go_enter Try.func74, Try.ntmps74
    go_wp2_with (first | ((with_reducible refine (G0.out _).mono ?_); rintro e w' ⟨rfl, rfl⟩) | ((with_reducible refine (G1.out _).mono ?_); rintro e w' ⟨rfl, rfl⟩) | ((with_reducible refine (G2.out _).mono ?_); rintro e w' ⟨rfl, rfl⟩) | ((with_reducible refine (G3.out _).mono ?_); rintro e w' ⟨rfl, rfl⟩))
    go_ret
    exact ⟨rfl, HB.out⟩
  have t7 : decide ((f.hoard.length : Int) > 16) = false := by simp; omega
  have K7 := Lib.hid g7
  by_cases g8 : f.drops > 0
  rotate_left
  · have K8 : Hid (f.drops ≠ 0 → f.hoard.length ≠ 0) := Lib.hid (by intro h; omega)
    have t8 : decide (f.drops > 0) = false := by simp; omega
    have HAll : Hid (x = true ↔ (∀ l ∈ f.script, LnOk c l) ∧ ∀ p ∈ f.hoard, PzOk p) := Lib.hid (by
      rw [HX.out]
      exact ⟨fun h => ⟨h.2.2.2.2.2.2, h.2.2.2.2.1.2.2.2⟩, fun h => ⟨K0.out, K1.out, K2.out, K3.out, ⟨K8.out, ⟨K4.out, K5.out⟩, by have := K7.out; omega, h.2⟩, by have := K6.out; omega, h.1⟩⟩)
    clear HX
    go_enter Try.func74, Try.ntmps74
    go_wp2_with (first | ((with_reducible refine (G0.out _).mono ?_); rintro e w' ⟨rfl, rfl⟩) | ((with_reducible refine (G1.out _).mono ?_); rintro e w' ⟨rfl, rfl⟩) | ((with_reducible refine (G2.out _).mono ?_); rintro e w' ⟨rfl, rfl⟩) | ((with_reducible refine (G3.out _).mono ?_); rintro e w' ⟨rfl, rfl⟩))
    generalize (w.alloc (oCn c)).alloc (.cells #[.int .i64 f.id, .int .i64 f.health, .int .i64 f.hit, .int .i64 f.every, .int .i64 f.reach, .slice f.sa f.script.length f.sc, .slice f.ha f.hoard.length f.hc, .int .i64 f.drops] 66) = V at *
    go_loopg [5] f.script.length (fun m s5 wr => ∃ (k : Nat), k ≤ f.script.length ∧ m = f.script.length - k ∧ s5 = .int .i64 (k : Int) ∧ Hid (Below V.heap.size V wr) ∧ Hid (∀ l ∈ f.script.take k, LnOk c l))
    case atStart => exact ⟨0, by omega, rfl, rfl, Lib.hid (Below.refl _ _), Lib.hid (by simp)⟩
    case round =>
      obtain ⟨k, hk, rfl, rfl, HW, HK⟩ := hrel
      have HCr := Lib.hid (hkeepW HW.out HC0.out); have HAr := Lib.hid (hkeepW HW.out HA0.out)
      have ha := cellOf1 HAr.out; have la := lt_blk1 HAr.out
      by_cases hlt : k < f.script.length
      · have hkl' : (k : Int) < f.script.length := by omega
        obtain ⟨l, hl⟩ : ∃ l, f.script[k]? = some l := ⟨_, List.getElem?_eq_getElem hlt⟩
        obtain ⟨p, off, hA, hpl, _⟩ := rowLn HE.out hl HW.out HBw.out
        have HEa := Lib.hid hA; have HLk := Lib.hid hl
        obtain ⟨xl, hxl⟩ := bex (LnOk c l)
        have HXl := Lib.hid hxl
        clear hA hl hxl
        go_wp2_with (fail)
        have hS0 : Below V.heap.size V wr.drew := HW.out.drew
        refine wp_region_noPanic ?_
        refine wp_region_held_drew (S := fun w' => Below V.heap.size V w') (by kernel_rfl) hS0 (fun _ => ?_)
        generalize wr.drew = v0 at hS0 ⊢
        clear ha la
        refine wpAnyH_take (i := 0) (oi := ⟨some 70, Op.load 31 (Operand.tmp 2), 31, _, _, none⟩) (v := ?va0) rfl (by kernel_rfl) (by kernel_rfl) (by kernel_rfl) (fun _ _ _ h => h) (Or.inl ⟨by rfl, ?ha0⟩) hS0 ?ra0
        case ha0 => (intro wz hSw; have z := cellOf1 (hkeepW hSw HC0.out); go_simp <;> with_reducible rfl)
        (try simp only [Act.put, List.setIfInBounds_toArray, List.set_cons_zero, List.set_cons_succ])
        refine wpAnyH_take (i := 1) (oi := ⟨some 71, Op.fieldAddr 66 (Operand.tmp 3) 5, 0, _, _, none⟩) (v := ?va1) rfl (by kernel_rfl) (by kernel_rfl) (by kernel_rfl) (fun _ _ _ h => h) (Or.inl ⟨by rfl, ?ha1⟩) hS0 ?ra1
        case ha1 => (intro wz hSw; go_simp <;> with_reducible rfl)
        (try simp only [Act.put, List.setIfInBounds_toArray, List.set_cons_zero, List.set_cons_succ])
        refine wpAnyH_take (i := 2) (oi := ⟨some 72, Op.load 63 (Operand.tmp 71), 63, _, _, none⟩) (v := ?va2) rfl (by kernel_rfl) (by kernel_rfl) (by kernel_rfl) (fun _ _ _ h => h) (Or.inl ⟨by rfl, ?ha2⟩) hS0 ?ra2
        case ha2 => (intro wz hSw; have z := cellOf1 (hkeepW hSw HA0.out); rw [HEa.out] at z; go_simp <;> with_reducible rfl)
        (try simp only [Act.put, List.setIfInBounds_toArray, List.set_cons_zero, List.set_cons_succ])
        refine wpAnyH_take (i := 3) (oi := ⟨some 73, Op.move (Operand.tmp 5), 3, _, _, none⟩) (v := ?va3) rfl (by kernel_rfl) (by kernel_rfl) (by kernel_rfl) (fun _ _ _ h => h) (Or.inl ⟨by rfl, ?ha3⟩) hS0 ?ra3
        case ha3 => (intro wz hSw; go_simp <;> with_reducible rfl)
        (try simp only [Act.put, List.setIfInBounds_toArray, List.set_cons_zero, List.set_cons_succ])
        refine wpAnyH_take (i := 4) (oi := ⟨some 74, Op.indexAddr 63 (Operand.tmp 72) (Operand.tmp 73), 0, _, _, none⟩) (v := ?va4) rfl (by kernel_rfl) (by kernel_rfl) (by kernel_rfl) (fun _ _ _ h => h) (Or.inl ⟨by rfl, ?ha4⟩) hS0 ?ra4
        case ha4 => (intro wz hSw; go_simp <;> with_reducible rfl)
        (try simp only [Act.put, List.setIfInBounds_toArray, List.set_cons_zero, List.set_cons_succ])
        refine wpAnyH_take (i := 5) (oi := ⟨some 75, Op.load 117 (Operand.tmp 74), 117, _, _, none⟩) (v := ?va5) rfl (by kernel_rfl) (by kernel_rfl) (by kernel_rfl) (fun _ _ _ h => h) (Or.inl ⟨by rfl, ?ha5⟩) hS0 ?ra5
        case ha5 => (intro wz hSw; obtain ⟨q0, q1, q2, q3, q4⟩ := rowLn1 HE.out HLk.out hSw HBw.out HEa.out; go_simp <;> with_reducible rfl)
        (try simp only [Act.put, List.setIfInBounds_toArray, List.set_cons_zero, List.set_cons_succ])
        refine wpAnyH_ready (rs := [6]) (by kernel_rfl) (by simp) ?_
        refine AllReadyH.cons (o := ⟨some 76, Op.call { callee := Callee.value (Operand.func 89), args := #[Operand.tmp 70, Operand.tmp 75], argTypes := #[31, 117] }, 4, _, _, none⟩) rfl (fun K hK => ?_) AllReadyH.nil
        go_simp
        (with_reducible refine (rline1 (HR.out.below hS0 HBw.out) (Nat.le_trans HBw.out (hS0).size) HS.out l xl HXl.out).mono ?_); rintro e v1 ⟨rfl, hBv⟩; have hS1 := bstep hBv hS0
        refine hK.out _ _ hS1 (fun _ => ?_)
        clear hK K
        (try simp only [Act.put, List.setIfInBounds_toArray, List.set_cons_zero, List.set_cons_succ])
        refine wpAnyH_take (i := 7) (oi := ⟨some 6, Op.assign (Operand.tmp 76), 4, _, _, none⟩) (v := ?va7) rfl (by kernel_rfl) (by kernel_rfl) (by kernel_rfl) (fun _ _ _ h => h) (Or.inl ⟨by rfl, ?ha7⟩) hS1 ?ra7
        case ha7 => (intro wz hSw; go_simp <;> with_reducible rfl)
        (try simp only [Act.put, List.setIfInBounds_toArray, List.set_cons_zero, List.set_cons_succ])
        refine wpAnyH_done (by kernel_rfl) ?_ _
        refine NoPanic.normal ?_
        have HWn : Hid (Below V.heap.size V v1) := Lib.hid hS1
        cases xl with
        | false =>
          have HNo : Hid (¬ LnOk c l) := Lib.hid (fun h => by have := HXl.out.2 h; cases this)
          go_wp2
          go_ret
          have hxf : x = false := by
              cases x with
              | false => rfl
              | true => exact absurd ((HAll.out.1 rfl).1 l (List.mem_of_getElem? HLk.out)) HNo.out
          exact ⟨ret_bool hxf.symm, HB.out.trans (HWn.out.mono HB.out.size)⟩
        | true =>
          have HYes : Hid (LnOk c l) := Lib.hid (HXl.out.1 rfl)
          go_wp2
          (try rw [← HEa.out])
          go_roundg (f.script.length - (k + 1))
          case measure => omega
          case rel => exact ⟨k + 1, by omega, rfl, by go_num, HWn, Lib.hid (mem_next1 HLk.out HYes.out HK.out)⟩
      · have hkl' : decide ((k : Int) < f.script.length) = false := by simp; omega
        have HL1 : Hid (∀ l ∈ f.script, LnOk c l) := Lib.hid (fun l hl => HK.out l (by rw [show k = f.script.length by omega, List.take_length]; exact hl))
        clear HK
        go_wp2
        clear hkl' hlt ha la HAr HCr
        generalize (k : Int) = kk at *
        have HW0 := HW; clear HW
        go_loopg [7] f.hoard.length (fun m s7 wq => ∃ (j : Nat), j ≤ f.hoard.length ∧ m = f.hoard.length - j ∧ s7 = .int .i64 (j : Int) ∧ wq = wr ∧ Hid (∀ p ∈ f.hoard.take j, PzOk p))
        case atStart => exact ⟨0, by omega, rfl, rfl, rfl, Lib.hid (by simp)⟩
        case round =>
          obtain ⟨j, hj, rfl, rfl, rfl, HJ⟩ := hrel
          have HAr := Lib.hid (hkeepW HW0.out HA0.out)
          have ha := cellOf1 HAr.out; have la := lt_blk1 HAr.out
          by_cases hlt : j < f.hoard.length
          · have hjl' : (j : Int) < f.hoard.length := by omega
            obtain ⟨pz1, hp⟩ : ∃ q, f.hoard[j]? = some q := ⟨_, List.getElem?_eq_getElem hlt⟩
            obtain ⟨p, off, hA, hpl, q0, q1⟩ := rowPz HP.out hp HW0.out HBw.out
            have hpw : p < wr.heap.size := Nat.lt_of_lt_of_le hpl (Nat.le_trans HBw.out HW0.out.size)
            have HPk := Lib.hid hp
            simp only [hA] at ha ⊢
            have HEa := Lib.hid hA; clear hA hp
            by_cases j1 : In pz1.item 1 1000000
            · have HA1 := Lib.hid (amt_all pz1.item 1 true (by simp [j1])); have J1 := Lib.hid j1; clear j1
              by_cases j2 : In pz1.weight 1 1000000
              · have HA2 := Lib.hid (amt_all pz1.weight 1 true (by simp [j2])); have J2 := Lib.hid j2; clear j2
                go_wp2_with (first | ((with_reducible refine (HA1.out _).mono ?_); rintro e w' ⟨rfl, rfl⟩) | ((with_reducible refine (HA2.out _).mono ?_); rintro e w' ⟨rfl, rfl⟩))
                (try rw [← HEa.out])
                go_roundg (f.hoard.length - (j + 1))
                case measure => omega
                case rel => exact ⟨j + 1, by omega, rfl, by go_num, rfl, Lib.hid (mem_next1 HPk.out ⟨J1.out, J2.out⟩ HJ.out)⟩
              · have HA2 := Lib.hid (amt_all pz1.weight 1 false (by simp [j2])); have J2 := Lib.hid j2; clear j2
                go_wp2_with (first | ((with_reducible refine (HA1.out _).mono ?_); rintro e w' ⟨rfl, rfl⟩) | ((with_reducible refine (HA2.out _).mono ?_); rintro e w' ⟨rfl, rfl⟩))
                go_ret
                have hxf : x = false := by
                  cases x with
                  | false => rfl
                  | true => exact absurd ((HAll.out.1 rfl).2 pz1 (List.mem_of_getElem? HPk.out)).2 J2.out
                exact ⟨ret_bool hxf.symm, HB.out.trans (HW0.out.mono HB.out.size)⟩
            · have HA1 := Lib.hid (amt_all pz1.item 1 false (by simp [j1])); have J1 := Lib.hid j1; clear j1
              go_wp2_with (first | ((with_reducible refine (HA1.out _).mono ?_); rintro e w' ⟨rfl, rfl⟩))
              go_ret
              have hxf : x = false := by
                cases x with
                | false => rfl
                | true => exact absurd ((HAll.out.1 rfl).2 pz1 (List.mem_of_getElem? HPk.out)).1 J1.out
              exact ⟨ret_bool hxf.symm, HB.out.trans (HW0.out.mono HB.out.size)⟩
          · have hjl' : decide ((j : Int) < f.hoard.length) = false := by simp; omega
            go_wp2
            go_ret
            have hall : x = true := HAll.out.2 ⟨HL1.out, fun q hq => HJ.out q (by rw [show j = f.hoard.length by omega, List.take_length]; exact hq)⟩
            exact ⟨ret_bool hall.symm, HB.out.trans (HW0.out.mono HB.out.size)⟩
  have t8 : decide (f.drops > 0) = true := by simp; omega
  by_cases g9 : f.hoard.length = 0
  · skip
    have t9 : ((f.hoard.length : Int) == 0) = true := by simp [g9]
    have hxf := fo_bad HX.out (fun h => h.2.2.2.2.1.1 (by omega) g9)
    clear HX; subst hxf
    have hg9 := Lib.hid g9; clear g9
    go_enter Try.func74, Try.ntmps74
    go_wp2_with (first | ((with_reducible refine (G0.out _).mono ?_); rintro e w' ⟨rfl, rfl⟩) | ((with_reducible refine (G1.out _).mono ?_); rintro e w' ⟨rfl, rfl⟩) | ((with_reducible refine (G2.out _).mono ?_); rintro e w' ⟨rfl, rfl⟩) | ((with_reducible refine (G3.out _).mono ?_); rintro e w' ⟨rfl, rfl⟩))
    go_ret
    exact ⟨rfl, HB.out⟩
  have K8 : Hid (f.drops ≠ 0 → f.hoard.length ≠ 0) := Lib.hid (fun _ => g9)
  have t9 : ((f.hoard.length : Int) == 0) = false := by simp [g9]
  have HAll : Hid (x = true ↔ (∀ l ∈ f.script, LnOk c l) ∧ ∀ p ∈ f.hoard, PzOk p) := Lib.hid (by
    rw [HX.out]
    exact ⟨fun h => ⟨h.2.2.2.2.2.2, h.2.2.2.2.1.2.2.2⟩, fun h => ⟨K0.out, K1.out, K2.out, K3.out, ⟨K8.out, ⟨K4.out, K5.out⟩, by have := K7.out; omega, h.2⟩, by have := K6.out; omega, h.1⟩⟩)
  clear HX
  go_enter Try.func74, Try.ntmps74
  go_wp2_with (first | ((with_reducible refine (G0.out _).mono ?_); rintro e w' ⟨rfl, rfl⟩) | ((with_reducible refine (G1.out _).mono ?_); rintro e w' ⟨rfl, rfl⟩) | ((with_reducible refine (G2.out _).mono ?_); rintro e w' ⟨rfl, rfl⟩) | ((with_reducible refine (G3.out _).mono ?_); rintro e w' ⟨rfl, rfl⟩))
  generalize (w.alloc (oCn c)).alloc (.cells #[.int .i64 f.id, .int .i64 f.health, .int .i64 f.hit, .int .i64 f.every, .int .i64 f.reach, .slice f.sa f.script.length f.sc, .slice f.ha f.hoard.length f.hc, .int .i64 f.drops] 66) = V at *
  go_loopg [5] f.script.length (fun m s5 wr => ∃ (k : Nat), k ≤ f.script.length ∧ m = f.script.length - k ∧ s5 = .int .i64 (k : Int) ∧ Hid (Below V.heap.size V wr) ∧ Hid (∀ l ∈ f.script.take k, LnOk c l))
  case atStart => exact ⟨0, by omega, rfl, rfl, Lib.hid (Below.refl _ _), Lib.hid (by simp)⟩
  case round =>
    obtain ⟨k, hk, rfl, rfl, HW, HK⟩ := hrel
    have HCr := Lib.hid (hkeepW HW.out HC0.out); have HAr := Lib.hid (hkeepW HW.out HA0.out)
    have ha := cellOf1 HAr.out; have la := lt_blk1 HAr.out
    by_cases hlt : k < f.script.length
    · have hkl' : (k : Int) < f.script.length := by omega
      obtain ⟨l, hl⟩ : ∃ l, f.script[k]? = some l := ⟨_, List.getElem?_eq_getElem hlt⟩
      obtain ⟨p, off, hA, hpl, _⟩ := rowLn HE.out hl HW.out HBw.out
      have HEa := Lib.hid hA; have HLk := Lib.hid hl
      obtain ⟨xl, hxl⟩ := bex (LnOk c l)
      have HXl := Lib.hid hxl
      clear hA hl hxl
      go_wp2_with (fail)
      have hS0 : Below V.heap.size V wr.drew := HW.out.drew
      refine wp_region_noPanic ?_
      refine wp_region_held_drew (S := fun w' => Below V.heap.size V w') (by kernel_rfl) hS0 (fun _ => ?_)
      generalize wr.drew = v0 at hS0 ⊢
      clear ha la
      refine wpAnyH_take (i := 0) (oi := ⟨some 70, Op.load 31 (Operand.tmp 2), 31, _, _, none⟩) (v := ?vb0) rfl (by kernel_rfl) (by kernel_rfl) (by kernel_rfl) (fun _ _ _ h => h) (Or.inl ⟨by rfl, ?hb0⟩) hS0 ?rb0
      case hb0 => (intro wz hSw; have z := cellOf1 (hkeepW hSw HC0.out); go_simp <;> with_reducible rfl)
      (try simp only [Act.put, List.setIfInBounds_toArray, List.set_cons_zero, List.set_cons_succ])
      refine wpAnyH_take (i := 1) (oi := ⟨some 71, Op.fieldAddr 66 (Operand.tmp 3) 5, 0, _, _, none⟩) (v := ?vb1) rfl (by kernel_rfl) (by kernel_rfl) (by kernel_rfl) (fun _ _ _ h => h) (Or.inl ⟨by rfl, ?hb1⟩) hS0 ?rb1
      case hb1 => (intro wz hSw; go_simp <;> with_reducible rfl)
      (try simp only [Act.put, List.setIfInBounds_toArray, List.set_cons_zero, List.set_cons_succ])
      refine wpAnyH_take (i := 2) (oi := ⟨some 72, Op.load 63 (Operand.tmp 71), 63, _, _, none⟩) (v := ?vb2) rfl (by kernel_rfl) (by kernel_rfl) (by kernel_rfl) (fun _ _ _ h => h) (Or.inl ⟨by rfl, ?hb2⟩) hS0 ?rb2
      case hb2 => (intro wz hSw; have z := cellOf1 (hkeepW hSw HA0.out); rw [HEa.out] at z; go_simp <;> with_reducible rfl)
      (try simp only [Act.put, List.setIfInBounds_toArray, List.set_cons_zero, List.set_cons_succ])
      refine wpAnyH_take (i := 3) (oi := ⟨some 73, Op.move (Operand.tmp 5), 3, _, _, none⟩) (v := ?vb3) rfl (by kernel_rfl) (by kernel_rfl) (by kernel_rfl) (fun _ _ _ h => h) (Or.inl ⟨by rfl, ?hb3⟩) hS0 ?rb3
      case hb3 => (intro wz hSw; go_simp <;> with_reducible rfl)
      (try simp only [Act.put, List.setIfInBounds_toArray, List.set_cons_zero, List.set_cons_succ])
      refine wpAnyH_take (i := 4) (oi := ⟨some 74, Op.indexAddr 63 (Operand.tmp 72) (Operand.tmp 73), 0, _, _, none⟩) (v := ?vb4) rfl (by kernel_rfl) (by kernel_rfl) (by kernel_rfl) (fun _ _ _ h => h) (Or.inl ⟨by rfl, ?hb4⟩) hS0 ?rb4
      case hb4 => (intro wz hSw; go_simp <;> with_reducible rfl)
      (try simp only [Act.put, List.setIfInBounds_toArray, List.set_cons_zero, List.set_cons_succ])
      refine wpAnyH_take (i := 5) (oi := ⟨some 75, Op.load 117 (Operand.tmp 74), 117, _, _, none⟩) (v := ?vb5) rfl (by kernel_rfl) (by kernel_rfl) (by kernel_rfl) (fun _ _ _ h => h) (Or.inl ⟨by rfl, ?hb5⟩) hS0 ?rb5
      case hb5 => (intro wz hSw; obtain ⟨q0, q1, q2, q3, q4⟩ := rowLn1 HE.out HLk.out hSw HBw.out HEa.out; go_simp <;> with_reducible rfl)
      (try simp only [Act.put, List.setIfInBounds_toArray, List.set_cons_zero, List.set_cons_succ])
      refine wpAnyH_ready (rs := [6]) (by kernel_rfl) (by simp) ?_
      refine AllReadyH.cons (o := ⟨some 76, Op.call { callee := Callee.value (Operand.func 89), args := #[Operand.tmp 70, Operand.tmp 75], argTypes := #[31, 117] }, 4, _, _, none⟩) rfl (fun K hK => ?_) AllReadyH.nil
      go_simp
      (with_reducible refine (rline1 (HR.out.below hS0 HBw.out) (Nat.le_trans HBw.out (hS0).size) HS.out l xl HXl.out).mono ?_); rintro e v1 ⟨rfl, hBv⟩; have hS1 := bstep hBv hS0
      refine hK.out _ _ hS1 (fun _ => ?_)
      clear hK K
      (try simp only [Act.put, List.setIfInBounds_toArray, List.set_cons_zero, List.set_cons_succ])
      refine wpAnyH_take (i := 7) (oi := ⟨some 6, Op.assign (Operand.tmp 76), 4, _, _, none⟩) (v := ?vb7) rfl (by kernel_rfl) (by kernel_rfl) (by kernel_rfl) (fun _ _ _ h => h) (Or.inl ⟨by rfl, ?hb7⟩) hS1 ?rb7
      case hb7 => (intro wz hSw; go_simp <;> with_reducible rfl)
      (try simp only [Act.put, List.setIfInBounds_toArray, List.set_cons_zero, List.set_cons_succ])
      refine wpAnyH_done (by kernel_rfl) ?_ _
      refine NoPanic.normal ?_
      have HWn : Hid (Below V.heap.size V v1) := Lib.hid hS1
      cases xl with
      | false =>
        have HNo : Hid (¬ LnOk c l) := Lib.hid (fun h => by have := HXl.out.2 h; cases this)
        go_wp2
        go_ret
        have hxf : x = false := by
            cases x with
            | false => rfl
            | true => exact absurd ((HAll.out.1 rfl).1 l (List.mem_of_getElem? HLk.out)) HNo.out
        exact ⟨ret_bool hxf.symm, HB.out.trans (HWn.out.mono HB.out.size)⟩
      | true =>
        have HYes : Hid (LnOk c l) := Lib.hid (HXl.out.1 rfl)
        go_wp2
        (try rw [← HEa.out])
        go_roundg (f.script.length - (k + 1))
        case measure => omega
        case rel => exact ⟨k + 1, by omega, rfl, by go_num, HWn, Lib.hid (mem_next1 HLk.out HYes.out HK.out)⟩
    · have hkl' : decide ((k : Int) < f.script.length) = false := by simp; omega
      have HL1 : Hid (∀ l ∈ f.script, LnOk c l) := Lib.hid (fun l hl => HK.out l (by rw [show k = f.script.length by omega, List.take_length]; exact hl))
      clear HK
      go_wp2
      clear hkl' hlt ha la HAr HCr
      generalize (k : Int) = kk at *
      have HW0 := HW; clear HW
      go_loopg [7] f.hoard.length (fun m s7 wq => ∃ (j : Nat), j ≤ f.hoard.length ∧ m = f.hoard.length - j ∧ s7 = .int .i64 (j : Int) ∧ wq = wr ∧ Hid (∀ p ∈ f.hoard.take j, PzOk p))
      case atStart => exact ⟨0, by omega, rfl, rfl, rfl, Lib.hid (by simp)⟩
      case round =>
        obtain ⟨j, hj, rfl, rfl, rfl, HJ⟩ := hrel
        have HAr := Lib.hid (hkeepW HW0.out HA0.out)
        have ha := cellOf1 HAr.out; have la := lt_blk1 HAr.out
        by_cases hlt : j < f.hoard.length
        · have hjl' : (j : Int) < f.hoard.length := by omega
          obtain ⟨pz1, hp⟩ : ∃ q, f.hoard[j]? = some q := ⟨_, List.getElem?_eq_getElem hlt⟩
          obtain ⟨p, off, hA, hpl, q0, q1⟩ := rowPz HP.out hp HW0.out HBw.out
          have hpw : p < wr.heap.size := Nat.lt_of_lt_of_le hpl (Nat.le_trans HBw.out HW0.out.size)
          have HPk := Lib.hid hp
          simp only [hA] at ha ⊢
          have HEa := Lib.hid hA; clear hA hp
          by_cases j1 : In pz1.item 1 1000000
          · have HA1 := Lib.hid (amt_all pz1.item 1 true (by simp [j1])); have J1 := Lib.hid j1; clear j1
            by_cases j2 : In pz1.weight 1 1000000
            · have HA2 := Lib.hid (amt_all pz1.weight 1 true (by simp [j2])); have J2 := Lib.hid j2; clear j2
              go_wp2_with (first | ((with_reducible refine (HA1.out _).mono ?_); rintro e w' ⟨rfl, rfl⟩) | ((with_reducible refine (HA2.out _).mono ?_); rintro e w' ⟨rfl, rfl⟩))
              (try rw [← HEa.out])
              go_roundg (f.hoard.length - (j + 1))
              case measure => omega
              case rel => exact ⟨j + 1, by omega, rfl, by go_num, rfl, Lib.hid (mem_next1 HPk.out ⟨J1.out, J2.out⟩ HJ.out)⟩
            · have HA2 := Lib.hid (amt_all pz1.weight 1 false (by simp [j2])); have J2 := Lib.hid j2; clear j2
              go_wp2_with (first | ((with_reducible refine (HA1.out _).mono ?_); rintro e w' ⟨rfl, rfl⟩) | ((with_reducible refine (HA2.out _).mono ?_); rintro e w' ⟨rfl, rfl⟩))
              go_ret
              have hxf : x = false := by
                cases x with
                | false => rfl
                | true => exact absurd ((HAll.out.1 rfl).2 pz1 (List.mem_of_getElem? HPk.out)).2 J2.out
              exact ⟨ret_bool hxf.symm, HB.out.trans (HW0.out.mono HB.out.size)⟩
          · have HA1 := Lib.hid (amt_all pz1.item 1 false (by simp [j1])); have J1 := Lib.hid j1; clear j1
            go_wp2_with (first | ((with_reducible refine (HA1.out _).mono ?_); rintro e w' ⟨rfl, rfl⟩))
            go_ret
            have hxf : x = false := by
              cases x with
              | false => rfl
              | true => exact absurd ((HAll.out.1 rfl).2 pz1 (List.mem_of_getElem? HPk.out)).1 J1.out
            exact ⟨ret_bool hxf.symm, HB.out.trans (HW0.out.mono HB.out.size)⟩
        · have hjl' : decide ((j : Int) < f.hoard.length) = false := by simp; omega
          go_wp2
          go_ret
          have hall : x = true := HAll.out.2 ⟨HL1.out, fun q hq => HJ.out q (by rw [show j = f.hoard.length by omega, List.take_length]; exact hq)⟩
          exact ⟨ret_bool hall.symm, HB.out.trans (HW0.out.mono HB.out.size)⟩
end Go.Proofs.Ytijobbdgiaiocaa.Con
