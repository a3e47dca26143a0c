/-
  SightAround: for every grid, every tile and every number the law answers true (Seen is what the document says); no condition.
-/
import Derived.Test.YtiggpmennomplaaSma
import Derived.Test.YtiggpmennomplaaRsn
import Derived.Test.YtiggpmennomplaaOpen
import Derived.Deep.Cut
import Derived.WalkKit
import Derived.ProofKit
import Derived.OpenShut
namespace Go.Proofs.Ytiggpmennomplaa.sightAround
open Go.ChangeShapes Go.WideShapes Go.ChangeAt Go.RowKit Con Wlk Lin Arn
set_option linter.unusedVariables false

theorem own : ownKnob Try.prog.godebug = none := by kernel_rfl

set_option maxRecDepth 100000 in
set_option maxHeartbeats 8000000 in
theorem walk (W : World) (gw gh : Int) (A : Option Addr) (c : Nat) (l : List Bool) (hw : Fits gw) (hh : Fits gh) (hr : RB W W.heap.size A l) (ax ay : Int) (fx : Fits ax) (fy : Fits ay) (r : Int) (fr : Fits r) :
    Calls Try.prog 4 #[gv gw gh A l.length c, pv ax ay, .int .i64 r] W fun e w' => e = .returned (.bool true) ∧ Below W.heap.size W w' := by
  obtain ⟨n, hn⟩ : ∃ n, l.length = n := ⟨_, rfl⟩
  have hb := ga_below gw gh A n c ax ay W
  have hg := ga_g2 gw gh A n c ax ay W
  have hf : ∀ V : World, Calls Try.prog 8 #[gv gw gh A n c] V fun e w' => e = .returned (.bool (decide ((n : Int) ≤ 1024))) ∧ Below V.heap.size V w' := fun V => few_any gw gh A n c V
  have HB0 := Lib.hid hb
  have HG0 := Lib.hid hg
  have HN := Lib.hid hn
  rw [hn]
  clear hb hg hn
  cases hfew : decide ((n : Int) ≤ 1024) with
  | false =>
    rw [hfew] at hf
    have HF := Lib.hid hf
    clear hf hfew
    go_enter Try.func4, Try.ntmps4
    go_wp2_with (first
      | ((with_reducible refine (small_any _).mono ?_); rintro e w1 ⟨rfl, hB1⟩; have HG1 := Lib.hid (HG0.out.below hB1 HG0.out.a.lt); obtain ⟨c0, c1, c2, c3, c4⟩ := HG1.out.cells; have HB1 := Lib.hid (HB0.out.trans (hB1.mono HB0.out.size)); clear hB1)
      | ((with_reducible refine (HF.out _).mono ?_); rintro e w2 ⟨rfl, hB2⟩; have HG2 := Lib.hid (HG1.out.below hB2 HG1.out.a.lt); clear c0 c1 c2 c3 c4; have HB2 := Lib.hid (HB1.out.trans (hB2.mono HB1.out.size)); clear hB2))
    have hS0 : Below w2.heap.size w2 w2.drew := (Below.refl _ _).drew
    refine wp_region_noPanic ?_
    refine wp_region_held_drew (S := fun w' => Below w2.heap.size w2 w') (by kernel_rfl) hS0 (fun _ => ?_)
    refine wpAnyH_take (i := 0) (oi := ⟨some 12, Op.move (Operand.tmp 7), 4, _, _, none⟩) (v := ?va0) rfl (by kernel_rfl) (by kernel_rfl) (by kernel_rfl) (fun _ _ _ h => h) (Or.inl ⟨by rfl, ?ha0⟩) hS0 ?ra0
    case ha0 => (intro wz hSw; go_simp <;> with_reducible rfl)
    (try simp only [Act.put, List.setIfInBounds_toArray, List.set_cons_zero, List.set_cons_succ])
    refine wpAnyH_take (i := 1) (oi := ⟨some 13, Op.move (Operand.tmp 12), 4, _, _, none⟩) (v := ?va1) rfl (by kernel_rfl) (by kernel_rfl) (by kernel_rfl) (fun _ _ _ h => h) (Or.inl ⟨by rfl, ?ha1⟩) hS0 ?ra1
    case ha1 => (intro wz hSw; go_simp <;> with_reducible rfl)
    (try simp only [Act.put, List.setIfInBounds_toArray, List.set_cons_zero, List.set_cons_succ])
    refine wpAnyH_take (i := 2) (oi := ⟨some 14, Op.move (Operand.tmp 8), 4, _, _, some (1, true)⟩) (v := ?va2) rfl (by kernel_rfl) (by kernel_rfl) (by kernel_rfl) (fun _ _ _ h => h) (Or.inl ⟨by rfl, ?ha2⟩) hS0 ?ra2
    case ha2 => (intro wz hSw; go_simp <;> with_reducible rfl)
    (try simp only [Act.put, List.setIfInBounds_toArray, List.set_cons_zero, List.set_cons_succ])
    refine wpAnyH_take (i := 3) (oi := ⟨some 15, Op.unOp UnOp.not 4 (Operand.tmp 14), 4, _, _, some (1, true)⟩) (v := ?va3) rfl (by kernel_rfl) (by kernel_rfl) (by kernel_rfl) (fun _ _ _ h => h) (Or.inl ⟨by rfl, ?ha3⟩) hS0 ?ra3
    case ha3 => (intro wz hSw; go_simp <;> with_reducible rfl)
    (try simp only [Act.put, List.setIfInBounds_toArray, List.set_cons_zero, List.set_cons_succ])
    refine wpAnyH_take (i := 4) (oi := ⟨some 16, Op.move (Operand.tmp 15), 4, _, _, some (1, true)⟩) (v := ?va4) rfl (by kernel_rfl) (by kernel_rfl) (by kernel_rfl) (fun _ _ _ h => h) (Or.inl ⟨by rfl, ?ha4⟩) hS0 ?ra4
    case ha4 => (intro wz hSw; go_simp <;> with_reducible rfl)
    (try simp only [Act.put, List.setIfInBounds_toArray, List.set_cons_zero, List.set_cons_succ])
    refine wpAnyH_take (i := 5) (oi := ⟨some 17, Op.fieldAddr 24 (Operand.tmp 3) 2, 0, _, _, some (4, false)⟩) (v := undef) rfl (by kernel_rfl) (by kernel_rfl) (by kernel_rfl) (fun _ _ _ h => h) (Or.inr ⟨by rfl, rfl⟩) hS0 ?ra5
    (try simp only [Act.put, List.setIfInBounds_toArray, List.set_cons_zero, List.set_cons_succ])
    refine wpAnyH_take (i := 6) (oi := ⟨some 18, Op.load 22 (Operand.tmp 17), 22, _, _, some (4, false)⟩) (v := undef) rfl (by kernel_rfl) (by kernel_rfl) (by kernel_rfl) (fun _ _ _ h => h) (Or.inr ⟨by rfl, rfl⟩) hS0 ?ra6
    (try simp only [Act.put, List.setIfInBounds_toArray, List.set_cons_zero, List.set_cons_succ])
    refine wpAnyH_take (i := 7) (oi := ⟨some 19, Op.call { callee := Callee.builtin Builtin.len, args := #[Operand.tmp 18], argTypes := #[22] }, 3, _, _, some (4, false)⟩) (v := undef) rfl (by kernel_rfl) (by kernel_rfl) (by kernel_rfl) (fun _ _ _ h => h) (Or.inr ⟨by rfl, rfl⟩) hS0 ?ra7
    (try simp only [Act.put, List.setIfInBounds_toArray, List.set_cons_zero, List.set_cons_succ])
    refine wpAnyH_take (i := 8) (oi := ⟨some 20, Op.binOp BinOp.gtr 3 (Operand.tmp 19) (Operand.const (Value.int IntKind.i64 200)) 3, 4, _, _, some (4, false)⟩) (v := undef) rfl (by kernel_rfl) (by kernel_rfl) (by kernel_rfl) (fun _ _ _ h => h) (Or.inr ⟨by rfl, rfl⟩) hS0 ?ra8
    (try simp only [Act.put, List.setIfInBounds_toArray, List.set_cons_zero, List.set_cons_succ])
    refine wpAnyH_take (i := 9) (oi := ⟨some 21, Op.pick (Operand.tmp 16) (Operand.const (Value.bool true)) (Operand.tmp 20), 4, _, _, some (1, true)⟩) (v := ?va9) rfl (by kernel_rfl) (by kernel_rfl) (by kernel_rfl) (fun _ _ _ h => h) (Or.inl ⟨by rfl, ?ha9⟩) hS0 ?ra9
    case ha9 => (intro wz hSw; go_simp <;> with_reducible rfl)
    (try simp only [Act.put, List.setIfInBounds_toArray, List.set_cons_zero, List.set_cons_succ])
    refine wpAnyH_take (i := 10) (oi := ⟨some 22, Op.move (Operand.tmp 21), 4, _, _, some (1, true)⟩) (v := ?va10) rfl (by kernel_rfl) (by kernel_rfl) (by kernel_rfl) (fun _ _ _ h => h) (Or.inl ⟨by rfl, ?ha10⟩) hS0 ?ra10
    case ha10 => (intro wz hSw; go_simp <;> with_reducible rfl)
    (try simp only [Act.put, List.setIfInBounds_toArray, List.set_cons_zero, List.set_cons_succ])
    refine wpAnyH_take (i := 11) (oi := ⟨some 23, Op.load 24 (Operand.tmp 3), 24, _, _, some (10, false)⟩) (v := undef) rfl (by kernel_rfl) (by kernel_rfl) (by kernel_rfl) (fun _ _ _ h => h) (Or.inr ⟨by rfl, rfl⟩) hS0 ?ra11
    (try simp only [Act.put, List.setIfInBounds_toArray, List.set_cons_zero, List.set_cons_succ])
    refine wpAnyH_take (i := 12) (oi := ⟨some 24, Op.load 26 (Operand.tmp 4), 26, _, _, some (10, false)⟩) (v := undef) rfl (by kernel_rfl) (by kernel_rfl) (by kernel_rfl) (fun _ _ _ h => h) (Or.inr ⟨by rfl, rfl⟩) hS0 ?ra12
    (try simp only [Act.put, List.setIfInBounds_toArray, List.set_cons_zero, List.set_cons_succ])
    refine wpAnyH_take (i := 13) (oi := ⟨some 25, Op.move (Operand.tmp 2), 3, _, _, some (10, false)⟩) (v := undef) rfl (by kernel_rfl) (by kernel_rfl) (by kernel_rfl) (fun _ _ _ h => h) (Or.inr ⟨by rfl, rfl⟩) hS0 ?ra13
    (try simp only [Act.put, List.setIfInBounds_toArray, List.set_cons_zero, List.set_cons_succ])
    refine wpAnyH_take (i := 14) (oi := ⟨some 26, Op.call { callee := Callee.value (Operand.func 16), args := #[Operand.tmp 23, Operand.tmp 24, Operand.tmp 25], argTypes := #[24, 26, 3] }, 32, _, _, some (10, false)⟩) (v := undef) rfl (by kernel_rfl) (by kernel_rfl) (by kernel_rfl) (fun _ _ _ h => h) (Or.inr ⟨by rfl, rfl⟩) hS0 ?ra14
    (try simp only [Act.put, List.setIfInBounds_toArray, List.set_cons_zero, List.set_cons_succ])
    refine wpAnyH_take (i := 15) (oi := ⟨some 27, Op.load 24 (Operand.tmp 3), 24, _, _, some (10, false)⟩) (v := undef) rfl (by kernel_rfl) (by kernel_rfl) (by kernel_rfl) (fun _ _ _ h => h) (Or.inr ⟨by rfl, rfl⟩) hS0 ?ra15
    (try simp only [Act.put, List.setIfInBounds_toArray, List.set_cons_zero, List.set_cons_succ])
    refine wpAnyH_take (i := 16) (oi := ⟨some 28, Op.load 26 (Operand.tmp 4), 26, _, _, some (10, false)⟩) (v := undef) rfl (by kernel_rfl) (by kernel_rfl) (by kernel_rfl) (fun _ _ _ h => h) (Or.inr ⟨by rfl, rfl⟩) hS0 ?ra16
    (try simp only [Act.put, List.setIfInBounds_toArray, List.set_cons_zero, List.set_cons_succ])
    refine wpAnyH_take (i := 17) (oi := ⟨some 29, Op.move (Operand.tmp 2), 3, _, _, some (10, false)⟩) (v := undef) rfl (by kernel_rfl) (by kernel_rfl) (by kernel_rfl) (fun _ _ _ h => h) (Or.inr ⟨by rfl, rfl⟩) hS0 ?ra17
    (try simp only [Act.put, List.setIfInBounds_toArray, List.set_cons_zero, List.set_cons_succ])
    refine wpAnyH_take (i := 18) (oi := ⟨some 30, Op.call { callee := Callee.value (Operand.func 17), args := #[Operand.tmp 27, Operand.tmp 28, Operand.tmp 29], argTypes := #[24, 26, 3] }, 32, _, _, some (10, false)⟩) (v := undef) rfl (by kernel_rfl) (by kernel_rfl) (by kernel_rfl) (fun _ _ _ h => h) (Or.inr ⟨by rfl, rfl⟩) hS0 ?ra18
    (try simp only [Act.put, List.setIfInBounds_toArray, List.set_cons_zero, List.set_cons_succ])
    refine wpAnyH_take (i := 19) (oi := ⟨some 31, Op.call { callee := Callee.value (Operand.func 11), args := #[Operand.tmp 26, Operand.tmp 30], argTypes := #[32, 32] }, 4, _, _, some (10, false)⟩) (v := undef) rfl (by kernel_rfl) (by kernel_rfl) (by kernel_rfl) (fun _ _ _ h => h) (Or.inr ⟨by rfl, rfl⟩) hS0 ?ra19
    (try simp only [Act.put, List.setIfInBounds_toArray, List.set_cons_zero, List.set_cons_succ])
    refine wpAnyH_take (i := 20) (oi := ⟨some 32, Op.pick (Operand.tmp 22) (Operand.const (Value.bool true)) (Operand.tmp 31), 4, _, _, some (1, true)⟩) (v := ?va20) rfl (by kernel_rfl) (by kernel_rfl) (by kernel_rfl) (fun _ _ _ h => h) (Or.inl ⟨by rfl, ?ha20⟩) hS0 ?ra20
    case ha20 => (intro wz hSw; go_simp <;> with_reducible rfl)
    (try simp only [Act.put, List.setIfInBounds_toArray, List.set_cons_zero, List.set_cons_succ])
    refine wpAnyH_take (i := 21) (oi := ⟨some 33, Op.pick (Operand.tmp 13) (Operand.tmp 32) (Operand.const (Value.bool false)), 4, _, _, none⟩) (v := ?va21) rfl (by kernel_rfl) (by kernel_rfl) (by kernel_rfl) (fun _ _ _ h => h) (Or.inl ⟨by rfl, ?ha21⟩) hS0 ?ra21
    case ha21 => (intro wz hSw; go_simp <;> with_reducible rfl)
    (try simp only [Act.put, List.setIfInBounds_toArray, List.set_cons_zero, List.set_cons_succ])
    refine wpAnyH_take (i := 22) (oi := ⟨some 6, Op.assign (Operand.tmp 33), 4, _, _, none⟩) (v := ?va22) rfl (by kernel_rfl) (by kernel_rfl) (by kernel_rfl) (fun _ _ _ h => h) (Or.inl ⟨by rfl, ?ha22⟩) hS0 ?ra22
    case ha22 => (intro wz hSw; go_simp <;> with_reducible rfl)
    (try simp only [Act.put, List.setIfInBounds_toArray, List.set_cons_zero, List.set_cons_succ])
    refine wpAnyH_done (by kernel_rfl) ?_ _
    refine NoPanic.normal ?_
    have hfin := HB2.out.trans (hS0.mono HB2.out.size)
    go_wp2
    go_ret
    exact ⟨rfl, hfin⟩
  | true =>
    rw [hfew] at hf
    have HF := Lib.hid hf
    clear hf hfew
    by_cases hn2 : (n : Int) > 200
    · have hn3 : 200 < n := by omega
      go_enter Try.func4, Try.ntmps4
      go_wp2_with (first
        | ((with_reducible refine (small_any _).mono ?_); rintro e w1 ⟨rfl, hB1⟩; have HG1 := Lib.hid (HG0.out.below hB1 HG0.out.a.lt); obtain ⟨c0, c1, c2, c3, c4⟩ := HG1.out.cells; have HB1 := Lib.hid (HB0.out.trans (hB1.mono HB0.out.size)); clear hB1)
        | ((with_reducible refine (HF.out _).mono ?_); rintro e w2 ⟨rfl, hB2⟩; have HG2 := Lib.hid (HG1.out.below hB2 HG1.out.a.lt); clear c0 c1 c2 c3 c4; have HB2 := Lib.hid (HB1.out.trans (hB2.mono HB1.out.size)); clear hB2))
      have hS0 : Below w2.heap.size w2 w2.drew := (Below.refl _ _).drew
      refine wp_region_noPanic ?_
      refine wp_region_held_drew (S := fun w' => Below w2.heap.size w2 w') (by kernel_rfl) hS0 (fun _ => ?_)
      refine wpAnyH_take (i := 0) (oi := ⟨some 12, Op.move (Operand.tmp 7), 4, _, _, none⟩) (v := ?vb0) rfl (by kernel_rfl) (by kernel_rfl) (by kernel_rfl) (fun _ _ _ h => h) (Or.inl ⟨by rfl, ?hb0⟩) hS0 ?rb0
      case hb0 => (intro wz hSw; go_simp <;> with_reducible rfl)
      (try simp only [Act.put, List.setIfInBounds_toArray, List.set_cons_zero, List.set_cons_succ])
      refine wpAnyH_take (i := 1) (oi := ⟨some 13, Op.move (Operand.tmp 12), 4, _, _, none⟩) (v := ?vb1) rfl (by kernel_rfl) (by kernel_rfl) (by kernel_rfl) (fun _ _ _ h => h) (Or.inl ⟨by rfl, ?hb1⟩) hS0 ?rb1
      case hb1 => (intro wz hSw; go_simp <;> with_reducible rfl)
      (try simp only [Act.put, List.setIfInBounds_toArray, List.set_cons_zero, List.set_cons_succ])
      refine wpAnyH_take (i := 2) (oi := ⟨some 14, Op.move (Operand.tmp 8), 4, _, _, some (1, true)⟩) (v := ?vb2) rfl (by kernel_rfl) (by kernel_rfl) (by kernel_rfl) (fun _ _ _ h => h) (Or.inl ⟨by rfl, ?hb2⟩) hS0 ?rb2
      case hb2 => (intro wz hSw; go_simp <;> with_reducible rfl)
      (try simp only [Act.put, List.setIfInBounds_toArray, List.set_cons_zero, List.set_cons_succ])
      refine wpAnyH_take (i := 3) (oi := ⟨some 15, Op.unOp UnOp.not 4 (Operand.tmp 14), 4, _, _, some (1, true)⟩) (v := ?vb3) rfl (by kernel_rfl) (by kernel_rfl) (by kernel_rfl) (fun _ _ _ h => h) (Or.inl ⟨by rfl, ?hb3⟩) hS0 ?rb3
      case hb3 => (intro wz hSw; go_simp <;> with_reducible rfl)
      (try simp only [Act.put, List.setIfInBounds_toArray, List.set_cons_zero, List.set_cons_succ])
      refine wpAnyH_take (i := 4) (oi := ⟨some 16, Op.move (Operand.tmp 15), 4, _, _, some (1, true)⟩) (v := ?vb4) rfl (by kernel_rfl) (by kernel_rfl) (by kernel_rfl) (fun _ _ _ h => h) (Or.inl ⟨by rfl, ?hb4⟩) hS0 ?rb4
      case hb4 => (intro wz hSw; go_simp <;> with_reducible rfl)
      (try simp only [Act.put, List.setIfInBounds_toArray, List.set_cons_zero, List.set_cons_succ])
      refine wpAnyH_take (i := 5) (oi := ⟨some 17, Op.fieldAddr 24 (Operand.tmp 3) 2, 0, _, _, some (4, false)⟩) (v := ?vb5) rfl (by kernel_rfl) (by kernel_rfl) (by kernel_rfl) (fun _ _ _ h => h) (Or.inl ⟨by rfl, ?hb5⟩) hS0 ?rb5
      case hb5 => (intro wz hSw; go_simp <;> with_reducible rfl)
      (try simp only [Act.put, List.setIfInBounds_toArray, List.set_cons_zero, List.set_cons_succ])
      refine wpAnyH_take (i := 6) (oi := ⟨some 18, Op.load 22 (Operand.tmp 17), 22, _, _, some (4, false)⟩) (v := ?vb6) rfl (by kernel_rfl) (by kernel_rfl) (by kernel_rfl) (fun _ _ _ h => h) (Or.inl ⟨by rfl, ?hb6⟩) hS0 ?rb6
      case hb6 => (intro wz hSw; obtain ⟨k0, k1, k2, k3, k4⟩ := (HG2.out.below hSw HG2.out.a.lt).cells; go_simp <;> with_reducible rfl)
      (try simp only [Act.put, List.setIfInBounds_toArray, List.set_cons_zero, List.set_cons_succ])
      refine wpAnyH_take (i := 7) (oi := ⟨some 19, Op.call { callee := Callee.builtin Builtin.len, args := #[Operand.tmp 18], argTypes := #[22] }, 3, _, _, some (4, false)⟩) (v := ?vb7) rfl (by kernel_rfl) (by kernel_rfl) (by kernel_rfl) (fun _ _ _ h => h) (Or.inl ⟨by rfl, ?hb7⟩) hS0 ?rb7
      case hb7 => (intro wz hSw; go_simp <;> with_reducible rfl)
      (try simp only [Act.put, List.setIfInBounds_toArray, List.set_cons_zero, List.set_cons_succ])
      refine wpAnyH_take (i := 8) (oi := ⟨some 20, Op.binOp BinOp.gtr 3 (Operand.tmp 19) (Operand.const (Value.int IntKind.i64 200)) 3, 4, _, _, some (4, false)⟩) (v := ?vb8) rfl (by kernel_rfl) (by kernel_rfl) (by kernel_rfl) (fun _ _ _ h => h) (Or.inl ⟨by rfl, ?hb8⟩) hS0 ?rb8
      case hb8 => (intro wz hSw; go_simp <;> with_reducible rfl)
      (try simp only [Act.put, List.setIfInBounds_toArray, List.set_cons_zero, List.set_cons_succ])
      refine wpAnyH_take (i := 9) (oi := ⟨some 21, Op.pick (Operand.tmp 16) (Operand.const (Value.bool true)) (Operand.tmp 20), 4, _, _, some (1, true)⟩) (v := ?vb9) rfl (by kernel_rfl) (by kernel_rfl) (by kernel_rfl) (fun _ _ _ h => h) (Or.inl ⟨by rfl, ?hb9⟩) hS0 ?rb9
      case hb9 => (intro wz hSw; go_simp <;> with_reducible rfl)
      (try simp only [Act.put, List.setIfInBounds_toArray, List.set_cons_zero, List.set_cons_succ])
      refine wpAnyH_take (i := 10) (oi := ⟨some 22, Op.move (Operand.tmp 21), 4, _, _, some (1, true)⟩) (v := ?vb10) rfl (by kernel_rfl) (by kernel_rfl) (by kernel_rfl) (fun _ _ _ h => h) (Or.inl ⟨by rfl, ?hb10⟩) hS0 ?rb10
      case hb10 => (intro wz hSw; go_simp <;> with_reducible rfl)
      (try simp only [Act.put, List.setIfInBounds_toArray, List.set_cons_zero, List.set_cons_succ])
      refine wpAnyH_take (i := 11) (oi := ⟨some 23, Op.load 24 (Operand.tmp 3), 24, _, _, some (10, false)⟩) (v := undef) rfl (by kernel_rfl) (by kernel_rfl) (by kernel_rfl) (fun _ _ _ h => h) (Or.inr ⟨by rfl, rfl⟩) hS0 ?rb11
      (try simp only [Act.put, List.setIfInBounds_toArray, List.set_cons_zero, List.set_cons_succ])
      refine wpAnyH_take (i := 12) (oi := ⟨some 24, Op.load 26 (Operand.tmp 4), 26, _, _, some (10, false)⟩) (v := undef) rfl (by kernel_rfl) (by kernel_rfl) (by kernel_rfl) (fun _ _ _ h => h) (Or.inr ⟨by rfl, rfl⟩) hS0 ?rb12
      (try simp only [Act.put, List.setIfInBounds_toArray, List.set_cons_zero, List.set_cons_succ])
      refine wpAnyH_take (i := 13) (oi := ⟨some 25, Op.move (Operand.tmp 2), 3, _, _, some (10, false)⟩) (v := undef) rfl (by kernel_rfl) (by kernel_rfl) (by kernel_rfl) (fun _ _ _ h => h) (Or.inr ⟨by rfl, rfl⟩) hS0 ?rb13
      (try simp only [Act.put, List.setIfInBounds_toArray, List.set_cons_zero, List.set_cons_succ])
      refine wpAnyH_take (i := 14) (oi := ⟨some 26, Op.call { callee := Callee.value (Operand.func 16), args := #[Operand.tmp 23, Operand.tmp 24, Operand.tmp 25], argTypes := #[24, 26, 3] }, 32, _, _, some (10, false)⟩) (v := undef) rfl (by kernel_rfl) (by kernel_rfl) (by kernel_rfl) (fun _ _ _ h => h) (Or.inr ⟨by rfl, rfl⟩) hS0 ?rb14
      (try simp only [Act.put, List.setIfInBounds_toArray, List.set_cons_zero, List.set_cons_succ])
      refine wpAnyH_take (i := 15) (oi := ⟨some 27, Op.load 24 (Operand.tmp 3), 24, _, _, some (10, false)⟩) (v := undef) rfl (by kernel_rfl) (by kernel_rfl) (by kernel_rfl) (fun _ _ _ h => h) (Or.inr ⟨by rfl, rfl⟩) hS0 ?rb15
      (try simp only [Act.put, List.setIfInBounds_toArray, List.set_cons_zero, List.set_cons_succ])
      refine wpAnyH_take (i := 16) (oi := ⟨some 28, Op.load 26 (Operand.tmp 4), 26, _, _, some (10, false)⟩) (v := undef) rfl (by kernel_rfl) (by kernel_rfl) (by kernel_rfl) (fun _ _ _ h => h) (Or.inr ⟨by rfl, rfl⟩) hS0 ?rb16
      (try simp only [Act.put, List.setIfInBounds_toArray, List.set_cons_zero, List.set_cons_succ])
      refine wpAnyH_take (i := 17) (oi := ⟨some 29, Op.move (Operand.tmp 2), 3, _, _, some (10, false)⟩) (v := undef) rfl (by kernel_rfl) (by kernel_rfl) (by kernel_rfl) (fun _ _ _ h => h) (Or.inr ⟨by rfl, rfl⟩) hS0 ?rb17
      (try simp only [Act.put, List.setIfInBounds_toArray, List.set_cons_zero, List.set_cons_succ])
      refine wpAnyH_take (i := 18) (oi := ⟨some 30, Op.call { callee := Callee.value (Operand.func 17), args := #[Operand.tmp 27, Operand.tmp 28, Operand.tmp 29], argTypes := #[24, 26, 3] }, 32, _, _, some (10, false)⟩) (v := undef) rfl (by kernel_rfl) (by kernel_rfl) (by kernel_rfl) (fun _ _ _ h => h) (Or.inr ⟨by rfl, rfl⟩) hS0 ?rb18
      (try simp only [Act.put, List.setIfInBounds_toArray, List.set_cons_zero, List.set_cons_succ])
      refine wpAnyH_take (i := 19) (oi := ⟨some 31, Op.call { callee := Callee.value (Operand.func 11), args := #[Operand.tmp 26, Operand.tmp 30], argTypes := #[32, 32] }, 4, _, _, some (10, false)⟩) (v := undef) rfl (by kernel_rfl) (by kernel_rfl) (by kernel_rfl) (fun _ _ _ h => h) (Or.inr ⟨by rfl, rfl⟩) hS0 ?rb19
      (try simp only [Act.put, List.setIfInBounds_toArray, List.set_cons_zero, List.set_cons_succ])
      refine wpAnyH_take (i := 20) (oi := ⟨some 32, Op.pick (Operand.tmp 22) (Operand.const (Value.bool true)) (Operand.tmp 31), 4, _, _, some (1, true)⟩) (v := ?vb20) rfl (by kernel_rfl) (by kernel_rfl) (by kernel_rfl) (fun _ _ _ h => h) (Or.inl ⟨by rfl, ?hb20⟩) hS0 ?rb20
      case hb20 => (intro wz hSw; go_simp <;> with_reducible rfl)
      (try simp only [Act.put, List.setIfInBounds_toArray, List.set_cons_zero, List.set_cons_succ])
      refine wpAnyH_take (i := 21) (oi := ⟨some 33, Op.pick (Operand.tmp 13) (Operand.tmp 32) (Operand.const (Value.bool false)), 4, _, _, none⟩) (v := ?vb21) rfl (by kernel_rfl) (by kernel_rfl) (by kernel_rfl) (fun _ _ _ h => h) (Or.inl ⟨by rfl, ?hb21⟩) hS0 ?rb21
      case hb21 => (intro wz hSw; go_simp <;> with_reducible rfl)
      (try simp only [Act.put, List.setIfInBounds_toArray, List.set_cons_zero, List.set_cons_succ])
      refine wpAnyH_take (i := 22) (oi := ⟨some 6, Op.assign (Operand.tmp 33), 4, _, _, none⟩) (v := ?vb22) rfl (by kernel_rfl) (by kernel_rfl) (by kernel_rfl) (fun _ _ _ h => h) (Or.inl ⟨by rfl, ?hb22⟩) hS0 ?rb22
      case hb22 => (intro wz hSw; go_simp <;> with_reducible rfl)
      (try simp only [Act.put, List.setIfInBounds_toArray, List.set_cons_zero, List.set_cons_succ])
      refine wpAnyH_done (by kernel_rfl) ?_ _
      refine NoPanic.normal ?_
      have hfin := HB2.out.trans (hS0.mono HB2.out.size)
      go_wp2
      go_ret
      exact ⟨rfl, hfin⟩
    · have hn3 : decide (200 < n) = false := by simp; omega
      obtain ⟨L, hL⟩ : ∃ L, seenL ⟨gw, gh, A, l, c, ax, ay, r⟩ = L := ⟨_, rfl⟩
      obtain ⟨k1, hk1⟩ : ∃ k1, L.length = k1 := ⟨_, rfl⟩
      have hfewL : L.length ≤ 70000 := by
        have h1 := around_few ⟨gw, gh, A, l, c, ax, ay, r⟩
        have h2 := List.length_filter_le (fun q : Tile => seesB gw gh l ax ay q.1.1 q.1.2) (aroundOf ⟨gw, gh, A, l, c, ax, ay, r⟩)
        rw [← hL]
        unfold seenL
        exact Nat.le_trans h2 (by omega)
      have shape : ∀ {w' : World} {B : Nat} {v : Value} {e : Ending}, e = .returned v → OwnT w' B v L → ∃ A c, e = .returned (.slice A k1 c) ∧ RT w' w'.heap.size A L := fun he hrow => by
        obtain ⟨A1, c1, hv, hrt, _⟩ := OwnT.shape hrow
        exact ⟨A1, c1, by rw [he, hv, hk1], hrt⟩
      have hsn : ∀ V : World, Below W.heap.size W V → Calls Try.prog 16 #[gv gw gh A n c, pv ax ay, .int .i64 r] V fun e w' => (∃ A c, e = .returned (.slice A k1 c) ∧ RT w' w'.heap.size A L) ∧ Below V.heap.size V w' := fun V hV => by
        have := seen_any ⟨gw, gh, A, l, c, ax, ay, r⟩ V fx fy fr (rb_later hr hV)
        dsimp only at this
        rw [hL, HN.out] at this
        refine this.mono fun e' w' h => ?_
        obtain ⟨⟨v, he, hrow⟩, hbl⟩ := h
        exact ⟨shape he hrow, hbl⟩
      have hrn : ∀ V : World, Below W.heap.size W V → Calls Try.prog 17 #[gv gw gh A n c, pv ax ay, .int .i64 r] V fun e w' => (∃ A c, e = .returned (.slice A k1 c) ∧ RT w' w'.heap.size A L) ∧ Below V.heap.size V w' := fun V hV => by
        have := rSeen_any ⟨gw, gh, A, l, c, ax, ay, r⟩ V fx fy fr (rb_later hr hV)
        dsimp only at this
        rw [hL, HN.out] at this
        refine this.mono fun e' w' h => ?_
        obtain ⟨⟨v, he, hrow⟩, hbl⟩ := h
        exact ⟨shape he hrow, hbl⟩
      have HSM : Hid (∀ (V : World) (B B' : Nat) (A A' : Option Addr) (c c' : Nat), RT V B A L → RT V B' A' L → Calls Try.prog 11 #[.slice A k1 c, .slice A' k1 c'] V fun e w' => e = .returned (.bool true) ∧ ∃ q, w' = V.drewN q) := Lib.hid (fun V B B' A A' c c' h1 h2 => by
        have := same_any (c := c) (c' := c') h1 h2 hfewL true (by simp)
        rwa [hk1] at this)
      have HSN0 := Lib.hid hsn; have HRN0 := Lib.hid hrn
      clear shape hL hk1 hfewL hsn hrn
      go_enter Try.func4, Try.ntmps4
      go_wp2_with (first
        | ((with_reducible refine (small_any _).mono ?_); rintro e w1 ⟨rfl, hB1⟩; have HG1 := Lib.hid (HG0.out.below hB1 HG0.out.a.lt); obtain ⟨c0, c1, c2, c3, c4⟩ := HG1.out.cells; have HB1 := Lib.hid (HB0.out.trans (hB1.mono HB0.out.size)); clear hB1)
        | ((with_reducible refine (HF.out _).mono ?_); rintro e w2 ⟨rfl, hB2⟩; have HG2 := Lib.hid (HG1.out.below hB2 HG1.out.a.lt); clear c0 c1 c2 c3 c4; have HB2 := Lib.hid (HB1.out.trans (hB2.mono HB1.out.size)); clear hB2))
      have HSN : Hid (∀ V : World, Below w2.heap.size w2 V → Calls Try.prog 16 #[gv gw gh A n c, pv ax ay, .int .i64 r] V fun e w' => (∃ A c, e = .returned (.slice A k1 c) ∧ RT w' w'.heap.size A L) ∧ Below V.heap.size V w') := Lib.hid (fun V h => HSN0.out V (HB2.out.trans (h.mono HB2.out.size)))
      have HRN : Hid (∀ V : World, Below w2.heap.size w2 V → Calls Try.prog 17 #[gv gw gh A n c, pv ax ay, .int .i64 r] V fun e w' => (∃ A c, e = .returned (.slice A k1 c) ∧ RT w' w'.heap.size A L) ∧ Below V.heap.size V w') := Lib.hid (fun V h => HRN0.out V (HB2.out.trans (h.mono HB2.out.size)))
      clear HSN0 HRN0
      have hn4 : decide ((n : Int) > 200) = false := by simp; omega
      have hn5 : decide ((200 : Int) < (n : Int)) = false := by simp; omega
      have hS0 : Below w2.heap.size w2 w2.drew := (Below.refl _ _).drew
      refine wp_region_noPanic ?_
      refine wp_region_held_drew (S := fun w' => Below w2.heap.size w2 w') (by kernel_rfl) hS0 (fun _ => ?_)
      refine wpAnyH_take (i := 0) (oi := ⟨some 12, Op.move (Operand.tmp 7), 4, _, _, none⟩) (v := ?vc0) rfl (by kernel_rfl) (by kernel_rfl) (by kernel_rfl) (fun _ _ _ h => h) (Or.inl ⟨by rfl, ?hc0⟩) hS0 ?rc0
      case hc0 => (intro wz hSw; go_simp <;> with_reducible rfl)
      (try simp only [Act.put, List.setIfInBounds_toArray, List.set_cons_zero, List.set_cons_succ])
      refine wpAnyH_take (i := 1) (oi := ⟨some 13, Op.move (Operand.tmp 12), 4, _, _, none⟩) (v := ?vc1) rfl (by kernel_rfl) (by kernel_rfl) (by kernel_rfl) (fun _ _ _ h => h) (Or.inl ⟨by rfl, ?hc1⟩) hS0 ?rc1
      case hc1 => (intro wz hSw; go_simp <;> with_reducible rfl)
      (try simp only [Act.put, List.setIfInBounds_toArray, List.set_cons_zero, List.set_cons_succ])
      refine wpAnyH_take (i := 2) (oi := ⟨some 14, Op.move (Operand.tmp 8), 4, _, _, some (1, true)⟩) (v := ?vc2) rfl (by kernel_rfl) (by kernel_rfl) (by kernel_rfl) (fun _ _ _ h => h) (Or.inl ⟨by rfl, ?hc2⟩) hS0 ?rc2
      case hc2 => (intro wz hSw; go_simp <;> with_reducible rfl)
      (try simp only [Act.put, List.setIfInBounds_toArray, List.set_cons_zero, List.set_cons_succ])
      refine wpAnyH_take (i := 3) (oi := ⟨some 15, Op.unOp UnOp.not 4 (Operand.tmp 14), 4, _, _, some (1, true)⟩) (v := ?vc3) rfl (by kernel_rfl) (by kernel_rfl) (by kernel_rfl) (fun _ _ _ h => h) (Or.inl ⟨by rfl, ?hc3⟩) hS0 ?rc3
      case hc3 => (intro wz hSw; go_simp <;> with_reducible rfl)
      (try simp only [Act.put, List.setIfInBounds_toArray, List.set_cons_zero, List.set_cons_succ])
      refine wpAnyH_take (i := 4) (oi := ⟨some 16, Op.move (Operand.tmp 15), 4, _, _, some (1, true)⟩) (v := ?vc4) rfl (by kernel_rfl) (by kernel_rfl) (by kernel_rfl) (fun _ _ _ h => h) (Or.inl ⟨by rfl, ?hc4⟩) hS0 ?rc4
      case hc4 => (intro wz hSw; go_simp <;> with_reducible rfl)
      (try simp only [Act.put, List.setIfInBounds_toArray, List.set_cons_zero, List.set_cons_succ])
      refine wpAnyH_take (i := 5) (oi := ⟨some 17, Op.fieldAddr 24 (Operand.tmp 3) 2, 0, _, _, some (4, false)⟩) (v := ?vc5) rfl (by kernel_rfl) (by kernel_rfl) (by kernel_rfl) (fun _ _ _ h => h) (Or.inl ⟨by rfl, ?hc5⟩) hS0 ?rc5
      case hc5 => (intro wz hSw; go_simp <;> with_reducible rfl)
      (try simp only [Act.put, List.setIfInBounds_toArray, List.set_cons_zero, List.set_cons_succ])
      refine wpAnyH_take (i := 6) (oi := ⟨some 18, Op.load 22 (Operand.tmp 17), 22, _, _, some (4, false)⟩) (v := ?vc6) rfl (by kernel_rfl) (by kernel_rfl) (by kernel_rfl) (fun _ _ _ h => h) (Or.inl ⟨by rfl, ?hc6⟩) hS0 ?rc6
      case hc6 => (intro wz hSw; obtain ⟨k0, k1, k2, k3, k4⟩ := (HG2.out.below hSw HG2.out.a.lt).cells; go_simp <;> with_reducible rfl)
      (try simp only [Act.put, List.setIfInBounds_toArray, List.set_cons_zero, List.set_cons_succ])
      refine wpAnyH_take (i := 7) (oi := ⟨some 19, Op.call { callee := Callee.builtin Builtin.len, args := #[Operand.tmp 18], argTypes := #[22] }, 3, _, _, some (4, false)⟩) (v := ?vc7) rfl (by kernel_rfl) (by kernel_rfl) (by kernel_rfl) (fun _ _ _ h => h) (Or.inl ⟨by rfl, ?hc7⟩) hS0 ?rc7
      case hc7 => (intro wz hSw; go_simp <;> with_reducible rfl)
      (try simp only [Act.put, List.setIfInBounds_toArray, List.set_cons_zero, List.set_cons_succ])
      refine wpAnyH_take (i := 8) (oi := ⟨some 20, Op.binOp BinOp.gtr 3 (Operand.tmp 19) (Operand.const (Value.int IntKind.i64 200)) 3, 4, _, _, some (4, false)⟩) (v := ?vc8) rfl (by kernel_rfl) (by kernel_rfl) (by kernel_rfl) (fun _ _ _ h => h) (Or.inl ⟨by rfl, ?hc8⟩) hS0 ?rc8
      case hc8 => (intro wz hSw; go_simp <;> with_reducible rfl)
      (try simp only [Act.put, List.setIfInBounds_toArray, List.set_cons_zero, List.set_cons_succ])
      refine wpAnyH_take (i := 9) (oi := ⟨some 21, Op.pick (Operand.tmp 16) (Operand.const (Value.bool true)) (Operand.tmp 20), 4, _, _, some (1, true)⟩) (v := ?vc9) rfl (by kernel_rfl) (by kernel_rfl) (by kernel_rfl) (fun _ _ _ h => h) (Or.inl ⟨by rfl, ?hc9⟩) hS0 ?rc9
      case hc9 => (intro wz hSw; go_simp <;> with_reducible rfl)
      (try simp only [Act.put, List.setIfInBounds_toArray, List.set_cons_zero, List.set_cons_succ])
      refine wpAnyH_take (i := 10) (oi := ⟨some 22, Op.move (Operand.tmp 21), 4, _, _, some (1, true)⟩) (v := ?vc10) rfl (by kernel_rfl) (by kernel_rfl) (by kernel_rfl) (fun _ _ _ h => h) (Or.inl ⟨by rfl, ?hc10⟩) hS0 ?rc10
      case hc10 => (intro wz hSw; go_simp <;> with_reducible rfl)
      (try simp only [Act.put, List.setIfInBounds_toArray, List.set_cons_zero, List.set_cons_succ])
      refine wpAnyH_take (i := 11) (oi := ⟨some 23, Op.load 24 (Operand.tmp 3), 24, _, _, some (10, false)⟩) (v := ?vc11) rfl (by kernel_rfl) (by kernel_rfl) (by kernel_rfl) (fun _ _ _ h => h) (Or.inl ⟨by rfl, ?hc11⟩) hS0 ?rc11
      case hc11 => (intro wz hSw; obtain ⟨k0, k1, k2, k3, k4⟩ := (HG2.out.below hSw HG2.out.a.lt).cells; go_simp <;> with_reducible rfl)
      (try simp only [Act.put, List.setIfInBounds_toArray, List.set_cons_zero, List.set_cons_succ])
      refine wpAnyH_take (i := 12) (oi := ⟨some 24, Op.load 26 (Operand.tmp 4), 26, _, _, some (10, false)⟩) (v := ?vc12) rfl (by kernel_rfl) (by kernel_rfl) (by kernel_rfl) (fun _ _ _ h => h) (Or.inl ⟨by rfl, ?hc12⟩) hS0 ?rc12
      case hc12 => (intro wz hSw; obtain ⟨k0, k1, k2, k3, k4⟩ := (HG2.out.below hSw HG2.out.a.lt).cells; go_simp <;> with_reducible rfl)
      (try simp only [Act.put, List.setIfInBounds_toArray, List.set_cons_zero, List.set_cons_succ])
      refine wpAnyH_take (i := 13) (oi := ⟨some 25, Op.move (Operand.tmp 2), 3, _, _, some (10, false)⟩) (v := ?vc13) rfl (by kernel_rfl) (by kernel_rfl) (by kernel_rfl) (fun _ _ _ h => h) (Or.inl ⟨by rfl, ?hc13⟩) hS0 ?rc13
      case hc13 => (intro wz hSw; go_simp <;> with_reducible rfl)
      (try simp only [Act.put, List.setIfInBounds_toArray, List.set_cons_zero, List.set_cons_succ])
      refine wpAnyH_take (i := 15) (oi := ⟨some 27, Op.load 24 (Operand.tmp 3), 24, _, _, some (10, false)⟩) (v := ?vc15) rfl (by kernel_rfl) (by kernel_rfl) (by kernel_rfl) (fun _ _ _ h => h) (Or.inl ⟨by rfl, ?hc15⟩) hS0 ?rc15
      case hc15 => (intro wz hSw; obtain ⟨k0, k1, k2, k3, k4⟩ := (HG2.out.below hSw HG2.out.a.lt).cells; go_simp <;> with_reducible rfl)
      (try simp only [Act.put, List.setIfInBounds_toArray, List.set_cons_zero, List.set_cons_succ])
      refine wpAnyH_take (i := 16) (oi := ⟨some 28, Op.load 26 (Operand.tmp 4), 26, _, _, some (10, false)⟩) (v := ?vc16) rfl (by kernel_rfl) (by kernel_rfl) (by kernel_rfl) (fun _ _ _ h => h) (Or.inl ⟨by rfl, ?hc16⟩) hS0 ?rc16
      case hc16 => (intro wz hSw; obtain ⟨k0, k1, k2, k3, k4⟩ := (HG2.out.below hSw HG2.out.a.lt).cells; go_simp <;> with_reducible rfl)
      (try simp only [Act.put, List.setIfInBounds_toArray, List.set_cons_zero, List.set_cons_succ])
      refine wpAnyH_take (i := 17) (oi := ⟨some 29, Op.move (Operand.tmp 2), 3, _, _, some (10, false)⟩) (v := ?vc17) rfl (by kernel_rfl) (by kernel_rfl) (by kernel_rfl) (fun _ _ _ h => h) (Or.inl ⟨by rfl, ?hc17⟩) hS0 ?rc17
      case hc17 => (intro wz hSw; go_simp <;> with_reducible rfl)
      (try simp only [Act.put, List.setIfInBounds_toArray, List.set_cons_zero, List.set_cons_succ])
      refine wpAnyH_ready (rs := [14]) (by kernel_rfl) (by simp) ?_
      refine AllReadyH.cons (o := ⟨some 26, Op.call { callee := Callee.value (Operand.func 16), args := #[Operand.tmp 23, Operand.tmp 24, Operand.tmp 25], argTypes := #[24, 26, 3] }, 32, _, _, some (10, false)⟩) rfl (fun K hK => ?_) AllReadyH.nil
      go_simp
      (with_reducible refine (HSN.out _ hS0).mono ?_); rintro e v1 ⟨⟨A1, c1', rfl, hR1⟩, hB1⟩; have hS1 := hS0.trans (hB1.mono hS0.size)
      refine hK.out _ _ hS1 (fun _ => ?_)
      clear hK K
      (try simp only [Act.put, List.setIfInBounds_toArray, List.set_cons_zero, List.set_cons_succ])
      refine wpAnyH_ready (rs := [18]) (by kernel_rfl) (by simp) ?_
      refine AllReadyH.cons (o := ⟨some 30, Op.call { callee := Callee.value (Operand.func 17), args := #[Operand.tmp 27, Operand.tmp 28, Operand.tmp 29], argTypes := #[24, 26, 3] }, 32, _, _, some (10, false)⟩) rfl (fun K hK => ?_) AllReadyH.nil
      go_simp
      (with_reducible refine (HRN.out _ hS1).mono ?_); rintro e v2 ⟨⟨A2, c2', rfl, hR2⟩, hB2⟩; have hS2 := hS1.trans (hB2.mono hS1.size); have hR1b := hR1.below hB2 (Nat.le_refl _)
      refine hK.out _ _ hS2 (fun _ => ?_)
      clear hK K
      (try simp only [Act.put, List.setIfInBounds_toArray, List.set_cons_zero, List.set_cons_succ])
      refine wpAnyH_ready (rs := [19]) (by kernel_rfl) (by simp) ?_
      refine AllReadyH.cons (o := ⟨some 31, Op.call { callee := Callee.value (Operand.func 11), args := #[Operand.tmp 26, Operand.tmp 30], argTypes := #[32, 32] }, 4, _, _, some (10, false)⟩) rfl (fun K hK => ?_) AllReadyH.nil
      go_simp
      (with_reducible refine (HSM.out _ _ _ _ _ _ _ hR1b hR2).mono ?_); rintro e v3 ⟨rfl, q3, rfl⟩; have hS3 := below_drewN hS2 q3; generalize hV3 : World.drewN _ q3 = v3 at hS3 ⊢; clear hV3
      refine hK.out _ _ hS3 (fun _ => ?_)
      clear hK K
      (try simp only [Act.put, List.setIfInBounds_toArray, List.set_cons_zero, List.set_cons_succ])
      refine wpAnyH_take (i := 20) (oi := ⟨some 32, Op.pick (Operand.tmp 22) (Operand.const (Value.bool true)) (Operand.tmp 31), 4, _, _, some (1, true)⟩) (v := ?vc20) rfl (by kernel_rfl) (by kernel_rfl) (by kernel_rfl) (fun _ _ _ h => h) (Or.inl ⟨by rfl, ?hc20⟩) hS3 ?rc20
      case hc20 => (intro wz hSw; go_simp <;> with_reducible rfl)
      (try simp only [Act.put, List.setIfInBounds_toArray, List.set_cons_zero, List.set_cons_succ])
      refine wpAnyH_take (i := 21) (oi := ⟨some 33, Op.pick (Operand.tmp 13) (Operand.tmp 32) (Operand.const (Value.bool false)), 4, _, _, none⟩) (v := ?vc21) rfl (by kernel_rfl) (by kernel_rfl) (by kernel_rfl) (fun _ _ _ h => h) (Or.inl ⟨by rfl, ?hc21⟩) hS3 ?rc21
      case hc21 => (intro wz hSw; go_simp <;> with_reducible rfl)
      (try simp only [Act.put, List.setIfInBounds_toArray, List.set_cons_zero, List.set_cons_succ])
      refine wpAnyH_take (i := 22) (oi := ⟨some 6, Op.assign (Operand.tmp 33), 4, _, _, none⟩) (v := ?vc22) rfl (by kernel_rfl) (by kernel_rfl) (by kernel_rfl) (fun _ _ _ h => h) (Or.inl ⟨by rfl, ?hc22⟩) hS3 ?rc22
      case hc22 => (intro wz hSw; go_simp <;> with_reducible rfl)
      (try simp only [Act.put, List.setIfInBounds_toArray, List.set_cons_zero, List.set_cons_succ])
      refine wpAnyH_done (by kernel_rfl) ?_ _
      refine NoPanic.normal ?_
      have hfin := HB2.out.trans (hS3.mono HB2.out.size)
      go_wp2
      go_ret
      exact ⟨rfl, hfin⟩


set_option maxRecDepth 100000 in
theorem lifted (os : Os) (started : os.Started) (H : Type) (enc : TypeId × Value → H) :
    ReturnsInHanded {} Try.checked os 4 .any (Rows.sightAroundSpec.pre6 enc Try.prog Try.f4 Rows.sightAroundRow.domain false) (Rows.sightAroundSpec.post enc Try.prog Try.f4 false true false false) := by
  refine returnsInHanded_of_change (C := Try.checked) own started (by kernel_rfl) Try.func4
    (ChangeSpec.witness6 (enc := enc) (C := Try.checked) false ⟨#[], #[.agg #[.int .i64 0, .int .i64 0, .slice none 0 0], .agg #[.int .i64 0, .int .i64 0], .int .i64 0], []⟩ 8 (by kernel_rfl) (by kernel_rfl) (by kernel_rfl) (by kernel_rfl)) ?_
  intro W base args ds gs before hval0 hW hcnd _
  have hval : ∀ (j : Nat) t v, Try.f4.params[j]? = some t → args[j]? = some v → Value.okWide Try.prog W .any base t v := hval0
  have hW' := hW
  obtain ⟨p, q, hA0, hV, rfl, hfz, hnd⟩ := hW
  have hA : DataW.TrodAll enc Try.prog W 0 (fun _ => true) true Try.f4.params.toList args.toList ds p := hA0
  rw [Try.params4] at hA hval
  obtain ⟨v0, vs0, d0, ds0, p0, q0, hargs, rfl, rfl, h0, r0⟩ := trodAll_cons hA
  obtain ⟨v1, vs1, d1, ds1, p1, q1, rfl, rfl, rfl, h1, r1⟩ := trodAll_cons r0
  obtain ⟨v2, vs2, d2, ds2, p2, q2, rfl, rfl, rfl, h2, r2⟩ := trodAll_cons r1
  obtain ⟨rfl, rfl, rfl⟩ := trodAll_nil r2
  obtain rfl : args = #[v0, v1, v2] := by cases args; simp_all
  obtain ⟨rfl, rfl⟩ := trodVars_none hV
  clear hA0 hval0
  have hlt0 : ∀ x ∈ p0, x.block < W.heap.size := fun x hx => hW'.lt x (by simp [hx])
  have hk0 := h0
  obtain ⟨gw0, gh0, A0, c0, l0, rfl, fw0, fh0, hr0⟩ := Open.viewG (hval 0 24 v0 rfl rfl) h0 hlt0
  have hlt1 : ∀ x ∈ p1, x.block < W.heap.size := fun x hx => hW'.lt x (by simp [hx])
  have hk1 := h1
  obtain ⟨x1, y1, rfl, fx1, fy1⟩ := Open.viewP (hval 1 26 v1 rfl rfl) h1
  obtain ⟨a2, rfl, rfl, rfl, w2⟩ := open_int Try.underlying3 (hval 2 3 v2 rfl rfl) h2
  simp only [List.append_nil] at hW'
  refine (walk W gw0 gh0 A0 c0 l0 fw0 fh0 hr0 x1 y1 fx1 fy1 a2 (Open.fits_of w2)).mono fun e W' ⟨he, hg⟩ => ?_
  subst he
  exact ⟨_, rfl, _, _, _, [], _, [], hW', (trodAll_cons_mk (shut_bool Try.underlying4 _) trodAll_mk0), (trodAll_cons_mk (Below.trod Open.laidOut (by kernel_rfl) (of_decide_eq_true (by kernel_rfl)) hk0 hg hlt0) (trodAll_cons_mk (Below.trod Open.laidOut (by kernel_rfl) (of_decide_eq_true (by kernel_rfl)) hk1 hg hlt1) (trodAll_cons_mk (shut_int Try.underlying3 w2) trodAll_mk0))), rfl, hg.frame _, fun h => by cases h⟩

theorem over : Rows.sightAroundRow.holds Try.pinned (OpenSpec.ofChange Rows.sightAroundSpec) :=
  OpenClaim.holds_of_wide 4 Try.f4 rfl rfl rfl rfl rfl rfl rfl ⟨rfl, rfl, rfl, rfl, rfl⟩ rfl rfl rfl rfl rfl (by kernel_rfl) Try.func4 (by kernel_rfl)
    (of_decide_eq_true (by kernel_rfl)) (by unfold Func.isWrapper; first | (rw [if_pos (by decide +kernel)]; kernel_rfl) | (rw [if_neg (by decide +kernel)]; exact ⟨rfl, rfl⟩))
    (fun os started H enc _ => lifted os started H enc)

/-- The given statement. -/
theorem proved : Rows.SightAroundSaid :=
  over
#print axioms proved
end Go.Proofs.Ytiggpmennomplaa.sightAround
