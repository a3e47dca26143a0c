/-
  The laws' small case comes out right.
-/
import Derived.Test.YtegpbdffddpmhaaBdh
import Derived.Test.YtegpbdffddpmhaaBdf
import Derived.Deep.RegionHeld3
namespace Go.Proofs.Ytegpbdffddpmhaa.Con
open Go.RowKit
set_option linter.unusedVariables false
theorem s_hurt (V : World) : Calls Try.prog 16 #[.agg #[.int .i64 1, .int .i64 1, .int .i64 0, .int .i64 10, .int .i64 20, .int .i64 3, .int .i64 5, .int .i64 0, .int .i64 0, .int .i64 4], .int .i64 15] V fun e w' => e = .returned (.tuple #[.agg #[.int .i64 1, .int .i64 1, .int .i64 0, .int .i64 0, .int .i64 20, .int .i64 3, .int .i64 5, .int .i64 0, .int .i64 0, .int .i64 0], .int .i64 10]) ∧ Below V.heap.size V w' := hurt_any (⟨1, 1, 0, 10, 20, 3, 5, 0, 0, 4⟩ : Un) 15 V
theorem s_heal (V : World) : Calls Try.prog 17 #[.agg #[.int .i64 1, .int .i64 1, .int .i64 0, .int .i64 10, .int .i64 20, .int .i64 3, .int .i64 5, .int .i64 0, .int .i64 0, .int .i64 4], .int .i64 15] V fun e w' => e = .returned (.tuple #[.agg #[.int .i64 1, .int .i64 1, .int .i64 0, .int .i64 20, .int .i64 20, .int .i64 3, .int .i64 5, .int .i64 0, .int .i64 0, .int .i64 4], .int .i64 10]) ∧ Below V.heap.size V w' := heal_any (⟨1, 1, 0, 10, 20, 3, 5, 0, 0, 4⟩ : Un) 15 V
theorem s_spend (V : World) : Calls Try.prog 19 #[.agg #[.int .i64 1, .int .i64 1, .int .i64 0, .int .i64 10, .int .i64 20, .int .i64 3, .int .i64 5, .int .i64 0, .int .i64 0, .int .i64 4], .int .i64 4] V fun e w' => e = .returned (.tuple #[.agg #[.int .i64 1, .int .i64 1, .int .i64 0, .int .i64 10, .int .i64 20, .int .i64 3, .int .i64 5, .int .i64 0, .int .i64 0, .int .i64 4], .bool false]) ∧ Below V.heap.size V w' := spend_any (⟨1, 1, 0, 10, 20, 3, 5, 0, 0, 4⟩ : Un) 4 V
theorem s_raise (V : World) : Calls Try.prog 20 #[.agg #[.int .i64 1, .int .i64 1, .int .i64 0, .int .i64 0, .int .i64 20, .int .i64 3, .int .i64 5, .int .i64 0, .int .i64 0, .int .i64 0]] V fun e w' => e = .returned (.tuple #[.agg #[.int .i64 1, .int .i64 1, .int .i64 0, .int .i64 10, .int .i64 20, .int .i64 3, .int .i64 5, .int .i64 0, .int .i64 0, .int .i64 0], .bool true]) ∧ Below V.heap.size V w' := raise_any (⟨1, 1, 0, 0, 20, 3, 5, 0, 0, 0⟩ : Un) V
theorem s_right (V : World) : Calls Try.prog 6 #[.agg #[.int .i64 1, .int .i64 1, .int .i64 0, .int .i64 10, .int .i64 20, .int .i64 3, .int .i64 5, .int .i64 0, .int .i64 0, .int .i64 4]] V fun e w' => e = .returned (.bool true) ∧ Below V.heap.size V w' := right_any (⟨1, 1, 0, 10, 20, 3, 5, 0, 0, 4⟩ : Un) V
theorem s_dead (V : World) : Calls Try.prog 8 #[.agg #[.int .i64 1, .int .i64 1, .int .i64 0, .int .i64 0, .int .i64 20, .int .i64 3, .int .i64 5, .int .i64 0, .int .i64 0, .int .i64 0]] V fun e w' => e = .returned (.bool true) ∧ Below V.heap.size V w' := dead_any (⟨1, 1, 0, 0, 20, 3, 5, 0, 0, 0⟩ : Un) V
theorem s_half (V : World) : Calls Try.prog 10 #[.agg #[.int .i64 1, .int .i64 1, .int .i64 0, .int .i64 10, .int .i64 20, .int .i64 3, .int .i64 5, .int .i64 0, .int .i64 0, .int .i64 4], .int .i64 50] V fun e w' => e = .returned (.bool true) ∧ Below V.heap.size V w' := below_any (⟨1, 1, 0, 10, 20, 3, 5, 0, 0, 4⟩ : Un) 50 V
theorem s_less (V : World) : Calls Try.prog 10 #[.agg #[.int .i64 1, .int .i64 1, .int .i64 0, .int .i64 10, .int .i64 20, .int .i64 3, .int .i64 5, .int .i64 0, .int .i64 0, .int .i64 4], .int .i64 49] V fun e w' => e = .returned (.bool false) ∧ Below V.heap.size V w' := below_any (⟨1, 1, 0, 10, 20, 3, 5, 0, 0, 4⟩ : Un) 49 V
theorem s_fields (V : World) : Calls Try.prog 12 #[.agg #[.int .i64 1, .int .i64 1, .int .i64 0, .int .i64 10, .int .i64 20, .int .i64 3, .int .i64 5, .int .i64 0, .int .i64 0, .int .i64 4]] V fun e w' => e = .returned (.agg #[.int .i64 1, .int .i64 0, .int .i64 10, .int .i64 20, .int .i64 3, .int .i64 5, .int .i64 0, .int .i64 0, .int .i64 4]) ∧ Below V.heap.size V w' := fields_any (⟨1, 1, 0, 10, 20, 3, 5, 0, 0, 4⟩ : Un) V
theorem s_from (V : World) : Calls Try.prog 14 #[.int .i64 1, .agg #[.int .i64 1, .int .i64 0, .int .i64 10, .int .i64 20, .int .i64 3, .int .i64 5, .int .i64 0, .int .i64 0, .int .i64 4]] V fun e w' => e = .returned (.agg #[.int .i64 1, .int .i64 1, .int .i64 0, .int .i64 10, .int .i64 20, .int .i64 3, .int .i64 5, .int .i64 0, .int .i64 0, .int .i64 4]) ∧ Below V.heap.size V w' := from_any 1 (⟨1, 1, 0, 10, 20, 3, 5, 0, 0, 4⟩ : Un) V
theorem s_eql (V : World) : (binOp .eql 25 (.agg #[.int .i64 1, .int .i64 1, .int .i64 0, .int .i64 10, .int .i64 20, .int .i64 3, .int .i64 5, .int .i64 0, .int .i64 0, .int .i64 4]) (.agg #[.int .i64 1, .int .i64 1, .int .i64 0, .int .i64 10, .int .i64 20, .int .i64 3, .int .i64 5, .int .i64 0, .int .i64 0, .int .i64 4])).run Try.prog V = .ok (.bool true) V := eql_unit (⟨1, 1, 0, 10, 20, 3, 5, 0, 0, 4⟩ : Un) V

set_option maxRecDepth 100000 in
set_option maxHeartbeats 8000000 in
theorem small_any (w : World) : Calls Try.prog 5 #[] w fun e w' => e = .returned (.bool true) ∧ Below w.heap.size w w' := by
  go_enter Try.func5, Try.ntmps5
  go_wp2_with (fail)
  have HX0 : Hid (Bx (w.alloc (.cells #[.int .i64 1, .int .i64 1, .int .i64 0, .int .i64 10, .int .i64 20, .int .i64 3, .int .i64 5, .int .i64 0, .int .i64 0, .int .i64 4] 25)) w.heap.size (⟨1, 1, 0, 10, 20, 3, 5, 0, 0, 4⟩ : Un)) := Lib.hid (Bx.new w (⟨1, 1, 0, 10, 20, 3, 5, 0, 0, 4⟩ : Un))
  have HB0 : Hid (Below w.heap.size w (w.alloc (.cells #[.int .i64 1, .int .i64 1, .int .i64 0, .int .i64 10, .int .i64 20, .int .i64 3, .int .i64 5, .int .i64 0, .int .i64 0, .int .i64 4] 25))) := Lib.hid (below_box (⟨1, 1, 0, 10, 20, 3, 5, 0, 0, 4⟩ : Un))
  generalize w.alloc (.cells #[.int .i64 1, .int .i64 1, .int .i64 0, .int .i64 10, .int .i64 20, .int .i64 3, .int .i64 5, .int .i64 0, .int .i64 0, .int .i64 4] 25) = w0 at *
  (with_reducible refine (s_hurt _).mono ?_); rintro e w1 ⟨rfl, hB1⟩
  have HX1 := Lib.hid (HX0.out.of hB1 HX0.out.lt)
  have HB1 := Lib.hid (below_more HB0.out hB1)
  clear hB1
  have HX2 := Lib.hid (HX1.out.alloc (.cells #[.int .i64 1, .int .i64 1, .int .i64 0, .int .i64 0, .int .i64 20, .int .i64 3, .int .i64 5, .int .i64 0, .int .i64 0, .int .i64 0] 25))
  have zHX := cellOf' HX1.out
  have lHX := HX1.out.lt
  have HA2 : Hid (Bx (w1.alloc (.cells #[.int .i64 1, .int .i64 1, .int .i64 0, .int .i64 0, .int .i64 20, .int .i64 3, .int .i64 5, .int .i64 0, .int .i64 0, .int .i64 0] 25)) w1.heap.size (⟨1, 1, 0, 0, 20, 3, 5, 0, 0, 0⟩ : Un)) := Lib.hid (Bx.new w1 (⟨1, 1, 0, 0, 20, 3, 5, 0, 0, 0⟩ : Un))
  have HB2 := Lib.hid (HB1.out.alloc HB1.out.size (.cells #[.int .i64 1, .int .i64 1, .int .i64 0, .int .i64 0, .int .i64 20, .int .i64 3, .int .i64 5, .int .i64 0, .int .i64 0, .int .i64 0] 25))
  go_wp2_with (fail)
  clear zHX lHX
  generalize w1.alloc (.cells #[.int .i64 1, .int .i64 1, .int .i64 0, .int .i64 0, .int .i64 20, .int .i64 3, .int .i64 5, .int .i64 0, .int .i64 0, .int .i64 0] 25) = w2 at *
  (with_reducible refine (s_heal _).mono ?_); rintro e w3 ⟨rfl, hB3⟩
  have HX3 := Lib.hid (HX2.out.of hB3 HX2.out.lt)
  have HA3 := Lib.hid (HA2.out.of hB3 HA2.out.lt)
  have HB3 := Lib.hid (below_more HB2.out hB3)
  clear hB3
  have HX4 := Lib.hid (HX3.out.alloc (.cells #[.int .i64 1, .int .i64 1, .int .i64 0, .int .i64 20, .int .i64 20, .int .i64 3, .int .i64 5, .int .i64 0, .int .i64 0, .int .i64 4] 25))
  have zHX := cellOf' HX3.out
  have lHX := HX3.out.lt
  have HA4 := Lib.hid (HA3.out.alloc (.cells #[.int .i64 1, .int .i64 1, .int .i64 0, .int .i64 20, .int .i64 20, .int .i64 3, .int .i64 5, .int .i64 0, .int .i64 0, .int .i64 4] 25))
  have zHA := cellOf' HA3.out
  have lHA := HA3.out.lt
  have HBB4 : Hid (Bx (w3.alloc (.cells #[.int .i64 1, .int .i64 1, .int .i64 0, .int .i64 20, .int .i64 20, .int .i64 3, .int .i64 5, .int .i64 0, .int .i64 0, .int .i64 4] 25)) w3.heap.size (⟨1, 1, 0, 20, 20, 3, 5, 0, 0, 4⟩ : Un)) := Lib.hid (Bx.new w3 (⟨1, 1, 0, 20, 20, 3, 5, 0, 0, 4⟩ : Un))
  have HB4 := Lib.hid (HB3.out.alloc HB3.out.size (.cells #[.int .i64 1, .int .i64 1, .int .i64 0, .int .i64 20, .int .i64 20, .int .i64 3, .int .i64 5, .int .i64 0, .int .i64 0, .int .i64 4] 25))
  go_wp2_with (fail)
  clear zHX lHX zHA lHA
  generalize w3.alloc (.cells #[.int .i64 1, .int .i64 1, .int .i64 0, .int .i64 20, .int .i64 20, .int .i64 3, .int .i64 5, .int .i64 0, .int .i64 0, .int .i64 4] 25) = w4 at *
  (with_reducible refine (s_spend _).mono ?_); rintro e w5 ⟨rfl, hB5⟩
  have HX5 := Lib.hid (HX4.out.of hB5 HX4.out.lt)
  have HA5 := Lib.hid (HA4.out.of hB5 HA4.out.lt)
  have HBB5 := Lib.hid (HBB4.out.of hB5 HBB4.out.lt)
  have HB5 := Lib.hid (below_more HB4.out hB5)
  clear hB5
  have HX6 := Lib.hid (HX5.out.alloc (.cells #[.int .i64 1, .int .i64 1, .int .i64 0, .int .i64 10, .int .i64 20, .int .i64 3, .int .i64 5, .int .i64 0, .int .i64 0, .int .i64 4] 25))
  have zHX := cellOf' HX5.out
  have lHX := HX5.out.lt
  have HA6 := Lib.hid (HA5.out.alloc (.cells #[.int .i64 1, .int .i64 1, .int .i64 0, .int .i64 10, .int .i64 20, .int .i64 3, .int .i64 5, .int .i64 0, .int .i64 0, .int .i64 4] 25))
  have zHA := cellOf' HA5.out
  have lHA := HA5.out.lt
  have HBB6 := Lib.hid (HBB5.out.alloc (.cells #[.int .i64 1, .int .i64 1, .int .i64 0, .int .i64 10, .int .i64 20, .int .i64 3, .int .i64 5, .int .i64 0, .int .i64 0, .int .i64 4] 25))
  have zHBB := cellOf' HBB5.out
  have lHBB := HBB5.out.lt
  have HC6 : Hid (Bx (w5.alloc (.cells #[.int .i64 1, .int .i64 1, .int .i64 0, .int .i64 10, .int .i64 20, .int .i64 3, .int .i64 5, .int .i64 0, .int .i64 0, .int .i64 4] 25)) w5.heap.size (⟨1, 1, 0, 10, 20, 3, 5, 0, 0, 4⟩ : Un)) := Lib.hid (Bx.new w5 (⟨1, 1, 0, 10, 20, 3, 5, 0, 0, 4⟩ : Un))
  have HB6 := Lib.hid (HB5.out.alloc HB5.out.size (.cells #[.int .i64 1, .int .i64 1, .int .i64 0, .int .i64 10, .int .i64 20, .int .i64 3, .int .i64 5, .int .i64 0, .int .i64 0, .int .i64 4] 25))
  go_wp2_with (fail)
  clear zHX lHX zHA lHA zHBB lHBB
  generalize w5.alloc (.cells #[.int .i64 1, .int .i64 1, .int .i64 0, .int .i64 10, .int .i64 20, .int .i64 3, .int .i64 5, .int .i64 0, .int .i64 0, .int .i64 4] 25) = w6 at *
  (with_reducible refine (s_raise _).mono ?_); rintro e w7 ⟨rfl, hB7⟩
  have HX7 := Lib.hid (HX6.out.of hB7 HX6.out.lt)
  have HA7 := Lib.hid (HA6.out.of hB7 HA6.out.lt)
  have HBB7 := Lib.hid (HBB6.out.of hB7 HBB6.out.lt)
  have HC7 := Lib.hid (HC6.out.of hB7 HC6.out.lt)
  have HB7 := Lib.hid (below_more HB6.out hB7)
  clear hB7
  have HX8 := Lib.hid (HX7.out.alloc (.cells #[.int .i64 1, .int .i64 1, .int .i64 0, .int .i64 10, .int .i64 20, .int .i64 3, .int .i64 5, .int .i64 0, .int .i64 0, .int .i64 0] 25))
  have zHX := cellOf' HX7.out
  have lHX := HX7.out.lt
  have HA8 := Lib.hid (HA7.out.alloc (.cells #[.int .i64 1, .int .i64 1, .int .i64 0, .int .i64 10, .int .i64 20, .int .i64 3, .int .i64 5, .int .i64 0, .int .i64 0, .int .i64 0] 25))
  have zHA := cellOf' HA7.out
  have lHA := HA7.out.lt
  have HBB8 := Lib.hid (HBB7.out.alloc (.cells #[.int .i64 1, .int .i64 1, .int .i64 0, .int .i64 10, .int .i64 20, .int .i64 3, .int .i64 5, .int .i64 0, .int .i64 0, .int .i64 0] 25))
  have zHBB := cellOf' HBB7.out
  have lHBB := HBB7.out.lt
  have HC8 := Lib.hid (HC7.out.alloc (.cells #[.int .i64 1, .int .i64 1, .int .i64 0, .int .i64 10, .int .i64 20, .int .i64 3, .int .i64 5, .int .i64 0, .int .i64 0, .int .i64 0] 25))
  have zHC := cellOf' HC7.out
  have lHC := HC7.out.lt
  have HD8 : Hid (Bx (w7.alloc (.cells #[.int .i64 1, .int .i64 1, .int .i64 0, .int .i64 10, .int .i64 20, .int .i64 3, .int .i64 5, .int .i64 0, .int .i64 0, .int .i64 0] 25)) w7.heap.size (⟨1, 1, 0, 10, 20, 3, 5, 0, 0, 0⟩ : Un)) := Lib.hid (Bx.new w7 (⟨1, 1, 0, 10, 20, 3, 5, 0, 0, 0⟩ : Un))
  have HB8 := Lib.hid (HB7.out.alloc HB7.out.size (.cells #[.int .i64 1, .int .i64 1, .int .i64 0, .int .i64 10, .int .i64 20, .int .i64 3, .int .i64 5, .int .i64 0, .int .i64 0, .int .i64 0] 25))
  go_wp2_with (fail)
  clear zHX lHX zHA lHA zHBB lHBB zHC lHC
  generalize w7.alloc (.cells #[.int .i64 1, .int .i64 1, .int .i64 0, .int .i64 10, .int .i64 20, .int .i64 3, .int .i64 5, .int .i64 0, .int .i64 0, .int .i64 0] 25) = w8 at *
  refine wp_region_noPanic ?_
  refine wp_region_held_drew (S := fun w' => Below w8.heap.size w8 w') (by kernel_rfl) (Below.refl _ _).drew (fun _ => ?_)
  have HC_0 := Lib.hid ((Below.refl w8.heap.size w8).drew)
  have heq := s_eql
  refine wpAnyH_take (i := 0) (oi := ⟨some 31, Op.load 25 (Operand.tmp 1), 25, _, _, none⟩) (v := ?vy0) rfl (by kernel_rfl) (by kernel_rfl) (by kernel_rfl) (fun _ _ _ h => h) (Or.inl ⟨by rfl, ?hy0⟩) HC_0.out ?ry0
  case hy0 => (intro wz hSw; have hzz := cellOf' (HX8.out.of hSw HX8.out.lt); go_simp <;> with_reducible rfl)
  (try simp only [Act.put, List.setIfInBounds_toArray, List.set_cons_zero, List.set_cons_succ])
  refine wpAnyH_ready (rs := [1]) (by kernel_rfl) (by simp) ?_
  refine AllReadyH.cons (o := ⟨some 32, Op.call { callee := Callee.value (Operand.func 6), args := #[Operand.tmp 31], argTypes := #[25] }, 4, _, _, none⟩) rfl (fun K hK => ?_) AllReadyH.nil
  go_simp
  (with_reducible refine (s_right _).mono ?_); rintro e v1 ⟨rfl, hb1⟩; have HC_1 := Lib.hid (below_more HC_0.out hb1); clear hb1
  refine hK.out _ _ HC_1.out (fun _ => ?_)
  clear hK K
  (try simp only [Act.put, List.setIfInBounds_toArray, List.set_cons_zero, List.set_cons_succ])
  refine wpAnyH_take (i := 2) (oi := ⟨some 33, Op.move (Operand.tmp 32), 4, _, _, none⟩) (v := ?vy2) rfl (by kernel_rfl) (by kernel_rfl) (by kernel_rfl) (fun _ _ _ h => h) (Or.inl ⟨by rfl, ?hy2⟩) HC_1.out ?ry2
  case hy2 => (intro wz hSw; go_simp <;> with_reducible rfl)
  (try simp only [Act.put, List.setIfInBounds_toArray, List.set_cons_zero, List.set_cons_succ])
  refine wpAnyH_take (i := 3) (oi := ⟨some 34, Op.fieldAddr 25 (Operand.tmp 2) 3, 0, _, _, some (2, true)⟩) (v := ?vy3) rfl (by kernel_rfl) (by kernel_rfl) (by kernel_rfl) (fun _ _ _ h => h) (Or.inl ⟨by rfl, ?hy3⟩) HC_1.out ?ry3
  case hy3 => (intro wz hSw; go_simp <;> with_reducible rfl)
  (try simp only [Act.put, List.setIfInBounds_toArray, List.set_cons_zero, List.set_cons_succ])
  refine wpAnyH_take (i := 4) (oi := ⟨some 35, Op.load 3 (Operand.tmp 34), 3, _, _, some (2, true)⟩) (v := ?vy4) rfl (by kernel_rfl) (by kernel_rfl) (by kernel_rfl) (fun _ _ _ h => h) (Or.inl ⟨by rfl, ?hy4⟩) HC_1.out ?ry4
  case hy4 => (intro wz hSw; have hzz := cellOf' (HA8.out.of hSw HA8.out.lt); go_simp <;> with_reducible rfl)
  (try simp only [Act.put, List.setIfInBounds_toArray, List.set_cons_zero, List.set_cons_succ])
  refine wpAnyH_take (i := 5) (oi := ⟨some 36, Op.binOp BinOp.eql 3 (Operand.tmp 35) (Operand.const (Value.int IntKind.i64 0)) 3, 4, _, _, some (2, true)⟩) (v := ?vy5) rfl (by kernel_rfl) (by kernel_rfl) (by kernel_rfl) (fun _ _ _ h => h) (Or.inl ⟨by rfl, ?hy5⟩) HC_1.out ?ry5
  case hy5 => (intro wz hSw; go_simp <;> with_reducible rfl)
  (try simp only [Act.put, List.setIfInBounds_toArray, List.set_cons_zero, List.set_cons_succ])
  refine wpAnyH_take (i := 6) (oi := ⟨some 37, Op.pick (Operand.tmp 33) (Operand.tmp 36) (Operand.const (Value.bool false)), 4, _, _, none⟩) (v := ?vy6) rfl (by kernel_rfl) (by kernel_rfl) (by kernel_rfl) (fun _ _ _ h => h) (Or.inl ⟨by rfl, ?hy6⟩) HC_1.out ?ry6
  case hy6 => (intro wz hSw; go_simp <;> with_reducible rfl)
  (try simp only [Act.put, List.setIfInBounds_toArray, List.set_cons_zero, List.set_cons_succ])
  refine wpAnyH_take (i := 7) (oi := ⟨some 38, Op.move (Operand.tmp 37), 4, _, _, none⟩) (v := ?vy7) rfl (by kernel_rfl) (by kernel_rfl) (by kernel_rfl) (fun _ _ _ h => h) (Or.inl ⟨by rfl, ?hy7⟩) HC_1.out ?ry7
  case hy7 => (intro wz hSw; go_simp <;> with_reducible rfl)
  (try simp only [Act.put, List.setIfInBounds_toArray, List.set_cons_zero, List.set_cons_succ])
  refine wpAnyH_take (i := 8) (oi := ⟨some 39, Op.move (Operand.tmp 3), 3, _, _, some (7, true)⟩) (v := ?vy8) rfl (by kernel_rfl) (by kernel_rfl) (by kernel_rfl) (fun _ _ _ h => h) (Or.inl ⟨by rfl, ?hy8⟩) HC_1.out ?ry8
  case hy8 => (intro wz hSw; go_simp <;> with_reducible rfl)
  (try simp only [Act.put, List.setIfInBounds_toArray, List.set_cons_zero, List.set_cons_succ])
  refine wpAnyH_take (i := 9) (oi := ⟨some 40, Op.binOp BinOp.eql 3 (Operand.tmp 39) (Operand.const (Value.int IntKind.i64 10)) 3, 4, _, _, some (7, true)⟩) (v := ?vy9) rfl (by kernel_rfl) (by kernel_rfl) (by kernel_rfl) (fun _ _ _ h => h) (Or.inl ⟨by rfl, ?hy9⟩) HC_1.out ?ry9
  case hy9 => (intro wz hSw; go_simp <;> with_reducible rfl)
  (try simp only [Act.put, List.setIfInBounds_toArray, List.set_cons_zero, List.set_cons_succ])
  refine wpAnyH_take (i := 10) (oi := ⟨some 41, Op.pick (Operand.tmp 38) (Operand.tmp 40) (Operand.const (Value.bool false)), 4, _, _, none⟩) (v := ?vy10) rfl (by kernel_rfl) (by kernel_rfl) (by kernel_rfl) (fun _ _ _ h => h) (Or.inl ⟨by rfl, ?hy10⟩) HC_1.out ?ry10
  case hy10 => (intro wz hSw; go_simp <;> with_reducible rfl)
  (try simp only [Act.put, List.setIfInBounds_toArray, List.set_cons_zero, List.set_cons_succ])
  refine wpAnyH_take (i := 11) (oi := ⟨some 42, Op.move (Operand.tmp 41), 4, _, _, none⟩) (v := ?vy11) rfl (by kernel_rfl) (by kernel_rfl) (by kernel_rfl) (fun _ _ _ h => h) (Or.inl ⟨by rfl, ?hy11⟩) HC_1.out ?ry11
  case hy11 => (intro wz hSw; go_simp <;> with_reducible rfl)
  (try simp only [Act.put, List.setIfInBounds_toArray, List.set_cons_zero, List.set_cons_succ])
  refine wpAnyH_take (i := 12) (oi := ⟨some 43, Op.fieldAddr 25 (Operand.tmp 2) 8, 0, _, _, some (11, true)⟩) (v := ?vy12) rfl (by kernel_rfl) (by kernel_rfl) (by kernel_rfl) (fun _ _ _ h => h) (Or.inl ⟨by rfl, ?hy12⟩) HC_1.out ?ry12
  case hy12 => (intro wz hSw; go_simp <;> with_reducible rfl)
  (try simp only [Act.put, List.setIfInBounds_toArray, List.set_cons_zero, List.set_cons_succ])
  refine wpAnyH_take (i := 13) (oi := ⟨some 44, Op.load 3 (Operand.tmp 43), 3, _, _, some (11, true)⟩) (v := ?vy13) rfl (by kernel_rfl) (by kernel_rfl) (by kernel_rfl) (fun _ _ _ h => h) (Or.inl ⟨by rfl, ?hy13⟩) HC_1.out ?ry13
  case hy13 => (intro wz hSw; have hzz := cellOf' (HA8.out.of hSw HA8.out.lt); go_simp <;> with_reducible rfl)
  (try simp only [Act.put, List.setIfInBounds_toArray, List.set_cons_zero, List.set_cons_succ])
  refine wpAnyH_take (i := 14) (oi := ⟨some 45, Op.binOp BinOp.eql 3 (Operand.tmp 44) (Operand.const (Value.int IntKind.i64 0)) 3, 4, _, _, some (11, true)⟩) (v := ?vy14) rfl (by kernel_rfl) (by kernel_rfl) (by kernel_rfl) (fun _ _ _ h => h) (Or.inl ⟨by rfl, ?hy14⟩) HC_1.out ?ry14
  case hy14 => (intro wz hSw; go_simp <;> with_reducible rfl)
  (try simp only [Act.put, List.setIfInBounds_toArray, List.set_cons_zero, List.set_cons_succ])
  refine wpAnyH_take (i := 15) (oi := ⟨some 46, Op.pick (Operand.tmp 42) (Operand.tmp 45) (Operand.const (Value.bool false)), 4, _, _, none⟩) (v := ?vy15) rfl (by kernel_rfl) (by kernel_rfl) (by kernel_rfl) (fun _ _ _ h => h) (Or.inl ⟨by rfl, ?hy15⟩) HC_1.out ?ry15
  case hy15 => (intro wz hSw; go_simp <;> with_reducible rfl)
  (try simp only [Act.put, List.setIfInBounds_toArray, List.set_cons_zero, List.set_cons_succ])
  refine wpAnyH_take (i := 16) (oi := ⟨some 47, Op.move (Operand.tmp 46), 4, _, _, none⟩) (v := ?vy16) rfl (by kernel_rfl) (by kernel_rfl) (by kernel_rfl) (fun _ _ _ h => h) (Or.inl ⟨by rfl, ?hy16⟩) HC_1.out ?ry16
  case hy16 => (intro wz hSw; go_simp <;> with_reducible rfl)
  (try simp only [Act.put, List.setIfInBounds_toArray, List.set_cons_zero, List.set_cons_succ])
  refine wpAnyH_take (i := 17) (oi := ⟨some 48, Op.load 25 (Operand.tmp 2), 25, _, _, some (16, true)⟩) (v := ?vy17) rfl (by kernel_rfl) (by kernel_rfl) (by kernel_rfl) (fun _ _ _ h => h) (Or.inl ⟨by rfl, ?hy17⟩) HC_1.out ?ry17
  case hy17 => (intro wz hSw; have hzz := cellOf' (HA8.out.of hSw HA8.out.lt); go_simp <;> with_reducible rfl)
  (try simp only [Act.put, List.setIfInBounds_toArray, List.set_cons_zero, List.set_cons_succ])
  refine wpAnyH_ready (rs := [18]) (by kernel_rfl) (by simp) ?_
  refine AllReadyH.cons (o := ⟨some 49, Op.call { callee := Callee.value (Operand.func 8), args := #[Operand.tmp 48], argTypes := #[25] }, 4, _, _, some (16, true)⟩) rfl (fun K hK => ?_) AllReadyH.nil
  go_simp
  (with_reducible refine (s_dead _).mono ?_); rintro e v2 ⟨rfl, hb2⟩; have HC_2 := Lib.hid (below_more HC_1.out hb2); clear hb2
  refine hK.out _ _ HC_2.out (fun _ => ?_)
  clear hK K
  (try simp only [Act.put, List.setIfInBounds_toArray, List.set_cons_zero, List.set_cons_succ])
  refine wpAnyH_take (i := 19) (oi := ⟨some 50, Op.pick (Operand.tmp 47) (Operand.tmp 49) (Operand.const (Value.bool false)), 4, _, _, none⟩) (v := ?vy19) rfl (by kernel_rfl) (by kernel_rfl) (by kernel_rfl) (fun _ _ _ h => h) (Or.inl ⟨by rfl, ?hy19⟩) HC_2.out ?ry19
  case hy19 => (intro wz hSw; go_simp <;> with_reducible rfl)
  (try simp only [Act.put, List.setIfInBounds_toArray, List.set_cons_zero, List.set_cons_succ])
  refine wpAnyH_take (i := 20) (oi := ⟨some 51, Op.move (Operand.tmp 50), 4, _, _, none⟩) (v := ?vy20) rfl (by kernel_rfl) (by kernel_rfl) (by kernel_rfl) (fun _ _ _ h => h) (Or.inl ⟨by rfl, ?hy20⟩) HC_2.out ?ry20
  case hy20 => (intro wz hSw; go_simp <;> with_reducible rfl)
  (try simp only [Act.put, List.setIfInBounds_toArray, List.set_cons_zero, List.set_cons_succ])
  refine wpAnyH_take (i := 21) (oi := ⟨some 52, Op.fieldAddr 25 (Operand.tmp 4) 3, 0, _, _, some (20, true)⟩) (v := ?vy21) rfl (by kernel_rfl) (by kernel_rfl) (by kernel_rfl) (fun _ _ _ h => h) (Or.inl ⟨by rfl, ?hy21⟩) HC_2.out ?ry21
  case hy21 => (intro wz hSw; go_simp <;> with_reducible rfl)
  (try simp only [Act.put, List.setIfInBounds_toArray, List.set_cons_zero, List.set_cons_succ])
  refine wpAnyH_take (i := 22) (oi := ⟨some 53, Op.load 3 (Operand.tmp 52), 3, _, _, some (20, true)⟩) (v := ?vy22) rfl (by kernel_rfl) (by kernel_rfl) (by kernel_rfl) (fun _ _ _ h => h) (Or.inl ⟨by rfl, ?hy22⟩) HC_2.out ?ry22
  case hy22 => (intro wz hSw; have hzz := cellOf' (HBB8.out.of hSw HBB8.out.lt); go_simp <;> with_reducible rfl)
  (try simp only [Act.put, List.setIfInBounds_toArray, List.set_cons_zero, List.set_cons_succ])
  refine wpAnyH_take (i := 23) (oi := ⟨some 54, Op.binOp BinOp.eql 3 (Operand.tmp 53) (Operand.const (Value.int IntKind.i64 20)) 3, 4, _, _, some (20, true)⟩) (v := ?vy23) rfl (by kernel_rfl) (by kernel_rfl) (by kernel_rfl) (fun _ _ _ h => h) (Or.inl ⟨by rfl, ?hy23⟩) HC_2.out ?ry23
  case hy23 => (intro wz hSw; go_simp <;> with_reducible rfl)
  (try simp only [Act.put, List.setIfInBounds_toArray, List.set_cons_zero, List.set_cons_succ])
  refine wpAnyH_take (i := 24) (oi := ⟨some 55, Op.pick (Operand.tmp 51) (Operand.tmp 54) (Operand.const (Value.bool false)), 4, _, _, none⟩) (v := ?vy24) rfl (by kernel_rfl) (by kernel_rfl) (by kernel_rfl) (fun _ _ _ h => h) (Or.inl ⟨by rfl, ?hy24⟩) HC_2.out ?ry24
  case hy24 => (intro wz hSw; go_simp <;> with_reducible rfl)
  (try simp only [Act.put, List.setIfInBounds_toArray, List.set_cons_zero, List.set_cons_succ])
  refine wpAnyH_take (i := 25) (oi := ⟨some 56, Op.move (Operand.tmp 55), 4, _, _, none⟩) (v := ?vy25) rfl (by kernel_rfl) (by kernel_rfl) (by kernel_rfl) (fun _ _ _ h => h) (Or.inl ⟨by rfl, ?hy25⟩) HC_2.out ?ry25
  case hy25 => (intro wz hSw; go_simp <;> with_reducible rfl)
  (try simp only [Act.put, List.setIfInBounds_toArray, List.set_cons_zero, List.set_cons_succ])
  refine wpAnyH_take (i := 26) (oi := ⟨some 57, Op.move (Operand.tmp 5), 3, _, _, some (25, true)⟩) (v := ?vy26) rfl (by kernel_rfl) (by kernel_rfl) (by kernel_rfl) (fun _ _ _ h => h) (Or.inl ⟨by rfl, ?hy26⟩) HC_2.out ?ry26
  case hy26 => (intro wz hSw; go_simp <;> with_reducible rfl)
  (try simp only [Act.put, List.setIfInBounds_toArray, List.set_cons_zero, List.set_cons_succ])
  refine wpAnyH_take (i := 27) (oi := ⟨some 58, Op.binOp BinOp.eql 3 (Operand.tmp 57) (Operand.const (Value.int IntKind.i64 10)) 3, 4, _, _, some (25, true)⟩) (v := ?vy27) rfl (by kernel_rfl) (by kernel_rfl) (by kernel_rfl) (fun _ _ _ h => h) (Or.inl ⟨by rfl, ?hy27⟩) HC_2.out ?ry27
  case hy27 => (intro wz hSw; go_simp <;> with_reducible rfl)
  (try simp only [Act.put, List.setIfInBounds_toArray, List.set_cons_zero, List.set_cons_succ])
  refine wpAnyH_take (i := 28) (oi := ⟨some 59, Op.pick (Operand.tmp 56) (Operand.tmp 58) (Operand.const (Value.bool false)), 4, _, _, none⟩) (v := ?vy28) rfl (by kernel_rfl) (by kernel_rfl) (by kernel_rfl) (fun _ _ _ h => h) (Or.inl ⟨by rfl, ?hy28⟩) HC_2.out ?ry28
  case hy28 => (intro wz hSw; go_simp <;> with_reducible rfl)
  (try simp only [Act.put, List.setIfInBounds_toArray, List.set_cons_zero, List.set_cons_succ])
  refine wpAnyH_take (i := 29) (oi := ⟨some 60, Op.move (Operand.tmp 59), 4, _, _, none⟩) (v := ?vy29) rfl (by kernel_rfl) (by kernel_rfl) (by kernel_rfl) (fun _ _ _ h => h) (Or.inl ⟨by rfl, ?hy29⟩) HC_2.out ?ry29
  case hy29 => (intro wz hSw; go_simp <;> with_reducible rfl)
  (try simp only [Act.put, List.setIfInBounds_toArray, List.set_cons_zero, List.set_cons_succ])
  refine wpAnyH_take (i := 30) (oi := ⟨some 61, Op.load 25 (Operand.tmp 6), 25, _, _, some (29, true)⟩) (v := ?vy30) rfl (by kernel_rfl) (by kernel_rfl) (by kernel_rfl) (fun _ _ _ h => h) (Or.inl ⟨by rfl, ?hy30⟩) HC_2.out ?ry30
  case hy30 => (intro wz hSw; have hzz := cellOf' (HC8.out.of hSw HC8.out.lt); go_simp <;> with_reducible rfl)
  (try simp only [Act.put, List.setIfInBounds_toArray, List.set_cons_zero, List.set_cons_succ])
  refine wpAnyH_take (i := 31) (oi := ⟨some 62, Op.load 25 (Operand.tmp 1), 25, _, _, some (29, true)⟩) (v := ?vy31) rfl (by kernel_rfl) (by kernel_rfl) (by kernel_rfl) (fun _ _ _ h => h) (Or.inl ⟨by rfl, ?hy31⟩) HC_2.out ?ry31
  case hy31 => (intro wz hSw; have hzz := cellOf' (HX8.out.of hSw HX8.out.lt); go_simp <;> with_reducible rfl)
  (try simp only [Act.put, List.setIfInBounds_toArray, List.set_cons_zero, List.set_cons_succ])
  refine wpAnyH_take (i := 32) (oi := ⟨some 63, Op.binOp BinOp.eql 25 (Operand.tmp 61) (Operand.tmp 62) 25, 4, _, _, some (29, true)⟩) (v := ?vy32) rfl (by kernel_rfl) (by kernel_rfl) (by kernel_rfl) (fun _ _ _ h => h) (Or.inl ⟨by rfl, ?hy32⟩) HC_2.out ?ry32
  case hy32 => (intro wz hSw; go_simp <;> with_reducible rfl)
  (try simp only [Act.put, List.setIfInBounds_toArray, List.set_cons_zero, List.set_cons_succ])
  refine wpAnyH_take (i := 33) (oi := ⟨some 64, Op.pick (Operand.tmp 60) (Operand.tmp 63) (Operand.const (Value.bool false)), 4, _, _, none⟩) (v := ?vy33) rfl (by kernel_rfl) (by kernel_rfl) (by kernel_rfl) (fun _ _ _ h => h) (Or.inl ⟨by rfl, ?hy33⟩) HC_2.out ?ry33
  case hy33 => (intro wz hSw; go_simp <;> with_reducible rfl)
  (try simp only [Act.put, List.setIfInBounds_toArray, List.set_cons_zero, List.set_cons_succ])
  refine wpAnyH_take (i := 34) (oi := ⟨some 65, Op.move (Operand.tmp 64), 4, _, _, none⟩) (v := ?vy34) rfl (by kernel_rfl) (by kernel_rfl) (by kernel_rfl) (fun _ _ _ h => h) (Or.inl ⟨by rfl, ?hy34⟩) HC_2.out ?ry34
  case hy34 => (intro wz hSw; go_simp <;> with_reducible rfl)
  (try simp only [Act.put, List.setIfInBounds_toArray, List.set_cons_zero, List.set_cons_succ])
  refine wpAnyH_take (i := 35) (oi := ⟨some 66, Op.move (Operand.tmp 7), 4, _, _, some (34, true)⟩) (v := ?vy35) rfl (by kernel_rfl) (by kernel_rfl) (by kernel_rfl) (fun _ _ _ h => h) (Or.inl ⟨by rfl, ?hy35⟩) HC_2.out ?ry35
  case hy35 => (intro wz hSw; go_simp <;> with_reducible rfl)
  (try simp only [Act.put, List.setIfInBounds_toArray, List.set_cons_zero, List.set_cons_succ])
  refine wpAnyH_take (i := 36) (oi := ⟨some 67, Op.unOp UnOp.not 4 (Operand.tmp 66), 4, _, _, some (34, true)⟩) (v := ?vy36) rfl (by kernel_rfl) (by kernel_rfl) (by kernel_rfl) (fun _ _ _ h => h) (Or.inl ⟨by rfl, ?hy36⟩) HC_2.out ?ry36
  case hy36 => (intro wz hSw; go_simp <;> with_reducible rfl)
  (try simp only [Act.put, List.setIfInBounds_toArray, List.set_cons_zero, List.set_cons_succ])
  refine wpAnyH_take (i := 37) (oi := ⟨some 68, Op.pick (Operand.tmp 65) (Operand.tmp 67) (Operand.const (Value.bool false)), 4, _, _, none⟩) (v := ?vy37) rfl (by kernel_rfl) (by kernel_rfl) (by kernel_rfl) (fun _ _ _ h => h) (Or.inl ⟨by rfl, ?hy37⟩) HC_2.out ?ry37
  case hy37 => (intro wz hSw; go_simp <;> with_reducible rfl)
  (try simp only [Act.put, List.setIfInBounds_toArray, List.set_cons_zero, List.set_cons_succ])
  refine wpAnyH_take (i := 38) (oi := ⟨some 69, Op.move (Operand.tmp 68), 4, _, _, none⟩) (v := ?vy38) rfl (by kernel_rfl) (by kernel_rfl) (by kernel_rfl) (fun _ _ _ h => h) (Or.inl ⟨by rfl, ?hy38⟩) HC_2.out ?ry38
  case hy38 => (intro wz hSw; go_simp <;> with_reducible rfl)
  (try simp only [Act.put, List.setIfInBounds_toArray, List.set_cons_zero, List.set_cons_succ])
  refine wpAnyH_take (i := 39) (oi := ⟨some 70, Op.fieldAddr 25 (Operand.tmp 8) 3, 0, _, _, some (38, true)⟩) (v := ?vy39) rfl (by kernel_rfl) (by kernel_rfl) (by kernel_rfl) (fun _ _ _ h => h) (Or.inl ⟨by rfl, ?hy39⟩) HC_2.out ?ry39
  case hy39 => (intro wz hSw; go_simp <;> with_reducible rfl)
  (try simp only [Act.put, List.setIfInBounds_toArray, List.set_cons_zero, List.set_cons_succ])
  refine wpAnyH_take (i := 40) (oi := ⟨some 71, Op.load 3 (Operand.tmp 70), 3, _, _, some (38, true)⟩) (v := ?vy40) rfl (by kernel_rfl) (by kernel_rfl) (by kernel_rfl) (fun _ _ _ h => h) (Or.inl ⟨by rfl, ?hy40⟩) HC_2.out ?ry40
  case hy40 => (intro wz hSw; have hzz := cellOf' (HD8.out.of hSw HD8.out.lt); go_simp <;> with_reducible rfl)
  (try simp only [Act.put, List.setIfInBounds_toArray, List.set_cons_zero, List.set_cons_succ])
  refine wpAnyH_take (i := 41) (oi := ⟨some 72, Op.binOp BinOp.eql 3 (Operand.tmp 71) (Operand.const (Value.int IntKind.i64 10)) 3, 4, _, _, some (38, true)⟩) (v := ?vy41) rfl (by kernel_rfl) (by kernel_rfl) (by kernel_rfl) (fun _ _ _ h => h) (Or.inl ⟨by rfl, ?hy41⟩) HC_2.out ?ry41
  case hy41 => (intro wz hSw; go_simp <;> with_reducible rfl)
  (try simp only [Act.put, List.setIfInBounds_toArray, List.set_cons_zero, List.set_cons_succ])
  refine wpAnyH_take (i := 42) (oi := ⟨some 73, Op.pick (Operand.tmp 69) (Operand.tmp 72) (Operand.const (Value.bool false)), 4, _, _, none⟩) (v := ?vy42) rfl (by kernel_rfl) (by kernel_rfl) (by kernel_rfl) (fun _ _ _ h => h) (Or.inl ⟨by rfl, ?hy42⟩) HC_2.out ?ry42
  case hy42 => (intro wz hSw; go_simp <;> with_reducible rfl)
  (try simp only [Act.put, List.setIfInBounds_toArray, List.set_cons_zero, List.set_cons_succ])
  refine wpAnyH_take (i := 43) (oi := ⟨some 74, Op.move (Operand.tmp 73), 4, _, _, none⟩) (v := ?vy43) rfl (by kernel_rfl) (by kernel_rfl) (by kernel_rfl) (fun _ _ _ h => h) (Or.inl ⟨by rfl, ?hy43⟩) HC_2.out ?ry43
  case hy43 => (intro wz hSw; go_simp <;> with_reducible rfl)
  (try simp only [Act.put, List.setIfInBounds_toArray, List.set_cons_zero, List.set_cons_succ])
  refine wpAnyH_take (i := 44) (oi := ⟨some 75, Op.move (Operand.tmp 9), 4, _, _, some (43, true)⟩) (v := ?vy44) rfl (by kernel_rfl) (by kernel_rfl) (by kernel_rfl) (fun _ _ _ h => h) (Or.inl ⟨by rfl, ?hy44⟩) HC_2.out ?ry44
  case hy44 => (intro wz hSw; go_simp <;> with_reducible rfl)
  (try simp only [Act.put, List.setIfInBounds_toArray, List.set_cons_zero, List.set_cons_succ])
  refine wpAnyH_take (i := 45) (oi := ⟨some 76, Op.pick (Operand.tmp 74) (Operand.tmp 75) (Operand.const (Value.bool false)), 4, _, _, none⟩) (v := ?vy45) rfl (by kernel_rfl) (by kernel_rfl) (by kernel_rfl) (fun _ _ _ h => h) (Or.inl ⟨by rfl, ?hy45⟩) HC_2.out ?ry45
  case hy45 => (intro wz hSw; go_simp <;> with_reducible rfl)
  (try simp only [Act.put, List.setIfInBounds_toArray, List.set_cons_zero, List.set_cons_succ])
  refine wpAnyH_take (i := 46) (oi := ⟨some 77, Op.move (Operand.tmp 76), 4, _, _, none⟩) (v := ?vy46) rfl (by kernel_rfl) (by kernel_rfl) (by kernel_rfl) (fun _ _ _ h => h) (Or.inl ⟨by rfl, ?hy46⟩) HC_2.out ?ry46
  case hy46 => (intro wz hSw; go_simp <;> with_reducible rfl)
  (try simp only [Act.put, List.setIfInBounds_toArray, List.set_cons_zero, List.set_cons_succ])
  refine wpAnyH_take (i := 47) (oi := ⟨some 78, Op.load 25 (Operand.tmp 1), 25, _, _, some (46, true)⟩) (v := ?vy47) rfl (by kernel_rfl) (by kernel_rfl) (by kernel_rfl) (fun _ _ _ h => h) (Or.inl ⟨by rfl, ?hy47⟩) HC_2.out ?ry47
  case hy47 => (intro wz hSw; have hzz := cellOf' (HX8.out.of hSw HX8.out.lt); go_simp <;> with_reducible rfl)
  (try simp only [Act.put, List.setIfInBounds_toArray, List.set_cons_zero, List.set_cons_succ])
  refine wpAnyH_ready (rs := [48]) (by kernel_rfl) (by simp) ?_
  refine AllReadyH.cons (o := ⟨some 79, Op.call { callee := Callee.value (Operand.func 10), args := #[Operand.tmp 78, Operand.const (Value.int IntKind.i64 50)], argTypes := #[25, 3] }, 4, _, _, some (46, true)⟩) rfl (fun K hK => ?_) AllReadyH.nil
  go_simp
  (with_reducible refine (s_half _).mono ?_); rintro e v3 ⟨rfl, hb3⟩; have HC_3 := Lib.hid (below_more HC_2.out hb3); clear hb3
  refine hK.out _ _ HC_3.out (fun _ => ?_)
  clear hK K
  (try simp only [Act.put, List.setIfInBounds_toArray, List.set_cons_zero, List.set_cons_succ])
  refine wpAnyH_take (i := 49) (oi := ⟨some 80, Op.pick (Operand.tmp 77) (Operand.tmp 79) (Operand.const (Value.bool false)), 4, _, _, none⟩) (v := ?vy49) rfl (by kernel_rfl) (by kernel_rfl) (by kernel_rfl) (fun _ _ _ h => h) (Or.inl ⟨by rfl, ?hy49⟩) HC_3.out ?ry49
  case hy49 => (intro wz hSw; go_simp <;> with_reducible rfl)
  (try simp only [Act.put, List.setIfInBounds_toArray, List.set_cons_zero, List.set_cons_succ])
  refine wpAnyH_take (i := 50) (oi := ⟨some 81, Op.move (Operand.tmp 80), 4, _, _, none⟩) (v := ?vy50) rfl (by kernel_rfl) (by kernel_rfl) (by kernel_rfl) (fun _ _ _ h => h) (Or.inl ⟨by rfl, ?hy50⟩) HC_3.out ?ry50
  case hy50 => (intro wz hSw; go_simp <;> with_reducible rfl)
  (try simp only [Act.put, List.setIfInBounds_toArray, List.set_cons_zero, List.set_cons_succ])
  refine wpAnyH_take (i := 51) (oi := ⟨some 82, Op.load 25 (Operand.tmp 1), 25, _, _, some (50, true)⟩) (v := ?vy51) rfl (by kernel_rfl) (by kernel_rfl) (by kernel_rfl) (fun _ _ _ h => h) (Or.inl ⟨by rfl, ?hy51⟩) HC_3.out ?ry51
  case hy51 => (intro wz hSw; have hzz := cellOf' (HX8.out.of hSw HX8.out.lt); go_simp <;> with_reducible rfl)
  (try simp only [Act.put, List.setIfInBounds_toArray, List.set_cons_zero, List.set_cons_succ])
  refine wpAnyH_ready (rs := [52]) (by kernel_rfl) (by simp) ?_
  refine AllReadyH.cons (o := ⟨some 83, Op.call { callee := Callee.value (Operand.func 10), args := #[Operand.tmp 82, Operand.const (Value.int IntKind.i64 49)], argTypes := #[25, 3] }, 4, _, _, some (50, true)⟩) rfl (fun K hK => ?_) AllReadyH.nil
  go_simp
  (with_reducible refine (s_less _).mono ?_); rintro e v4 ⟨rfl, hb4⟩; have HC_4 := Lib.hid (below_more HC_3.out hb4); clear hb4
  refine hK.out _ _ HC_4.out (fun _ => ?_)
  clear hK K
  (try simp only [Act.put, List.setIfInBounds_toArray, List.set_cons_zero, List.set_cons_succ])
  refine wpAnyH_take (i := 53) (oi := ⟨some 84, Op.unOp UnOp.not 4 (Operand.tmp 83), 4, _, _, some (50, true)⟩) (v := ?vy53) rfl (by kernel_rfl) (by kernel_rfl) (by kernel_rfl) (fun _ _ _ h => h) (Or.inl ⟨by rfl, ?hy53⟩) HC_4.out ?ry53
  case hy53 => (intro wz hSw; go_simp <;> with_reducible rfl)
  (try simp only [Act.put, List.setIfInBounds_toArray, List.set_cons_zero, List.set_cons_succ])
  refine wpAnyH_take (i := 54) (oi := ⟨some 85, Op.pick (Operand.tmp 81) (Operand.tmp 84) (Operand.const (Value.bool false)), 4, _, _, none⟩) (v := ?vy54) rfl (by kernel_rfl) (by kernel_rfl) (by kernel_rfl) (fun _ _ _ h => h) (Or.inl ⟨by rfl, ?hy54⟩) HC_4.out ?ry54
  case hy54 => (intro wz hSw; go_simp <;> with_reducible rfl)
  (try simp only [Act.put, List.setIfInBounds_toArray, List.set_cons_zero, List.set_cons_succ])
  refine wpAnyH_take (i := 55) (oi := ⟨some 86, Op.move (Operand.tmp 85), 4, _, _, none⟩) (v := ?vy55) rfl (by kernel_rfl) (by kernel_rfl) (by kernel_rfl) (fun _ _ _ h => h) (Or.inl ⟨by rfl, ?hy55⟩) HC_4.out ?ry55
  case hy55 => (intro wz hSw; go_simp <;> with_reducible rfl)
  (try simp only [Act.put, List.setIfInBounds_toArray, List.set_cons_zero, List.set_cons_succ])
  refine wpAnyH_take (i := 56) (oi := ⟨some 87, Op.load 25 (Operand.tmp 1), 25, _, _, some (55, true)⟩) (v := ?vy56) rfl (by kernel_rfl) (by kernel_rfl) (by kernel_rfl) (fun _ _ _ h => h) (Or.inl ⟨by rfl, ?hy56⟩) HC_4.out ?ry56
  case hy56 => (intro wz hSw; have hzz := cellOf' (HX8.out.of hSw HX8.out.lt); go_simp <;> with_reducible rfl)
  (try simp only [Act.put, List.setIfInBounds_toArray, List.set_cons_zero, List.set_cons_succ])
  refine wpAnyH_take (i := 59) (oi := ⟨some 90, Op.load 25 (Operand.tmp 1), 25, _, _, some (55, true)⟩) (v := ?vy59) rfl (by kernel_rfl) (by kernel_rfl) (by kernel_rfl) (fun _ _ _ h => h) (Or.inl ⟨by rfl, ?hy59⟩) HC_4.out ?ry59
  case hy59 => (intro wz hSw; have hzz := cellOf' (HX8.out.of hSw HX8.out.lt); go_simp <;> with_reducible rfl)
  (try simp only [Act.put, List.setIfInBounds_toArray, List.set_cons_zero, List.set_cons_succ])
  refine wpAnyH_ready (rs := [57]) (by kernel_rfl) (by simp) ?_
  refine AllReadyH.cons (o := ⟨some 88, Op.call { callee := Callee.value (Operand.func 12), args := #[Operand.tmp 87], argTypes := #[25] }, 26, _, _, some (55, true)⟩) rfl (fun K hK => ?_) AllReadyH.nil
  go_simp
  (with_reducible refine (s_fields _).mono ?_); rintro e v5 ⟨rfl, hb5⟩; have HC_5 := Lib.hid (below_more HC_4.out hb5); clear hb5
  refine hK.out _ _ HC_5.out (fun _ => ?_)
  clear hK K
  (try simp only [Act.put, List.setIfInBounds_toArray, List.set_cons_zero, List.set_cons_succ])
  refine wpAnyH_ready (rs := [58]) (by kernel_rfl) (by simp) ?_
  refine AllReadyH.cons (o := ⟨some 89, Op.call { callee := Callee.value (Operand.func 14), args := #[Operand.const (Value.int IntKind.i64 1), Operand.tmp 88], argTypes := #[3, 26] }, 25, _, _, some (55, true)⟩) rfl (fun K hK => ?_) AllReadyH.nil
  go_simp
  (with_reducible refine (s_from _).mono ?_); rintro e v6 ⟨rfl, hb6⟩; have HC_6 := Lib.hid (below_more HC_5.out hb6); clear hb6
  refine hK.out _ _ HC_6.out (fun _ => ?_)
  clear hK K
  (try simp only [Act.put, List.setIfInBounds_toArray, List.set_cons_zero, List.set_cons_succ])
  refine wpAnyH_take (i := 60) (oi := ⟨some 91, Op.binOp BinOp.eql 25 (Operand.tmp 89) (Operand.tmp 90) 25, 4, _, _, some (55, true)⟩) (v := ?vy60) rfl (by kernel_rfl) (by kernel_rfl) (by kernel_rfl) (fun _ _ _ h => h) (Or.inl ⟨by rfl, ?hy60⟩) HC_6.out ?ry60
  case hy60 => (intro wz hSw; go_simp <;> with_reducible rfl)
  (try simp only [Act.put, List.setIfInBounds_toArray, List.set_cons_zero, List.set_cons_succ])
  refine wpAnyH_take (i := 61) (oi := ⟨some 92, Op.pick (Operand.tmp 86) (Operand.tmp 91) (Operand.const (Value.bool false)), 4, _, _, none⟩) (v := ?vy61) rfl (by kernel_rfl) (by kernel_rfl) (by kernel_rfl) (fun _ _ _ h => h) (Or.inl ⟨by rfl, ?hy61⟩) HC_6.out ?ry61
  case hy61 => (intro wz hSw; go_simp <;> with_reducible rfl)
  (try simp only [Act.put, List.setIfInBounds_toArray, List.set_cons_zero, List.set_cons_succ])
  refine wpAnyH_take (i := 62) (oi := ⟨some 0, Op.assign (Operand.tmp 92), 4, _, _, none⟩) (v := ?vy62) rfl (by kernel_rfl) (by kernel_rfl) (by kernel_rfl) (fun _ _ _ h => h) (Or.inl ⟨by rfl, ?hy62⟩) HC_6.out ?ry62
  case hy62 => (intro wz hSw; go_simp <;> with_reducible rfl)
  (try simp only [Act.put, List.setIfInBounds_toArray, List.set_cons_zero])
  refine wpAnyH_done (by kernel_rfl) ?_ _
  refine NoPanic.normal ?_
  have HFin := Lib.hid (HC_6.out)
  go_wp2
  go_ret
  exact ⟨rfl, below_more HB8.out HFin.out⟩
end Go.Proofs.Ytegpbdffddpmhaa.Con
