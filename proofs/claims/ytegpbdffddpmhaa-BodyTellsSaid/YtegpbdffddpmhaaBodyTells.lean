/-
  BodyTells: for every unit, every number and every nine numbers the law answers true (Right, Dead, Below, Fields and From answer as the document's own); no condition.
-/
import Derived.Test.YtegpbdffddpmhaaSma
import Derived.Test.YtegpbdffddpmhaaBdx
import Derived.Test.YtegpbdffddpmhaaBop
import Derived.WalkKit
import Derived.ProofKit
import Derived.OpenShut
namespace Go.Proofs.Ytegpbdffddpmhaa.bodyTells
open Go.ChangeShapes Go.WideShapes Go.ChangeAt Go.RowKit Con
set_option linter.unusedVariables false

theorem own : ownKnob Try.prog.godebug = none := by kernel_rfl

set_option maxRecDepth 100000 in
set_option maxHeartbeats 8000000 in
theorem walk (w : World) (u : Un) (hu : FU u) (p : Int) (hp : Fits p) (g : Un) (hg : FU g) :
    Calls Try.prog 3 #[uv u, .int .i64 p, fv g] w fun e w' => e = .returned (.bool true) ∧ Below w.heap.size w w' := by
  have HB0 : Hid (Below w.heap.size w ((w.alloc (oU u)).alloc (oF g))) := Lib.hid ((below_box u).alloc (by simp) _)
  have HX0 : Hid (Bx ((w.alloc (oU u)).alloc (oF g)) w.heap.size u) := Lib.hid ((Bx.new w u).alloc _)
  have HF0 : Hid (((w.alloc (oU u)).alloc (oF g)).heap[w.heap.size + 1]? = some (oF g)) := Lib.hid (by have := heap_alloc_new (w.alloc (oU u)) (oF g); simpa using this)
  go_enter Try.func3, Try.ntmps3
  go_wp2_with (fail)
  generalize (w.alloc (oU u)).alloc (oF g) = w0 at *
  (with_reducible refine (small_any _).mono ?_); rintro e w2 ⟨rfl, hB2⟩
  have HX2 := Lib.hid (HX0.out.of hB2 HX0.out.lt)
  have HF2 : Hid (w2.heap[w.heap.size + 1]? = some (oF g)) := Lib.hid ((hB2.block _ (lt_of_block HF0.out)).trans HF0.out)
  have HB2 := Lib.hid (below_more HB0.out hB2)
  clear hB2
  obtain ⟨rb, hrb⟩ : ∃ x, x = rtU u := ⟨_, rfl⟩
  obtain ⟨db, hdb⟩ : ∃ x, x = decide (u.h < 1) := ⟨_, rfl⟩
  obtain ⟨bb, hbb⟩ : ∃ x, x = decide (u.h ≤ partI u.m p 100) := ⟨_, rfl⟩
  obtain ⟨v, hv⟩ : ∃ x : Un, x = { g with i := p } := ⟨_, rfl⟩
  have HRi : Hid (∀ V : World, Calls Try.prog 6 #[uv u] V fun e w' => e = .returned (.bool rb) ∧ Below V.heap.size V w') := Lib.hid (fun V => by rw [hrb]; exact right_any u V)
  have HRr : Hid (∀ V : World, Calls Try.prog 7 #[uv u] V fun e w' => e = .returned (.bool rb) ∧ Below V.heap.size V w') := Lib.hid (fun V => by rw [hrb]; exact rright_any u V)
  have HDa : Hid (∀ V : World, Calls Try.prog 8 #[uv u] V fun e w' => e = .returned (.bool db) ∧ Below V.heap.size V w') := Lib.hid (fun V => by rw [hdb]; exact dead_any u V)
  have HDr : Hid (∀ V : World, Calls Try.prog 9 #[uv u] V fun e w' => e = .returned (.bool db) ∧ Below V.heap.size V w') := Lib.hid (fun V => by rw [hdb]; exact rdead_any u V)
  have HBa : Hid (∀ V : World, Calls Try.prog 10 #[uv u, .int .i64 p] V fun e w' => e = .returned (.bool bb) ∧ Below V.heap.size V w') := Lib.hid (fun V => by rw [hbb]; exact below_any u p V)
  have HBr : Hid (∀ V : World, Calls Try.prog 11 #[uv u, .int .i64 p] V fun e w' => e = .returned (.bool bb) ∧ Below V.heap.size V w') := Lib.hid (fun V => by rw [hbb]; exact rbelow_any u p V)
  have HFa : Hid (∀ V : World, Calls Try.prog 12 #[uv u] V fun e w' => e = .returned (fv u) ∧ Below V.heap.size V w') := Lib.hid (fun V => fields_any u V)
  have HFr : Hid (∀ V : World, Calls Try.prog 13 #[uv u] V fun e w' => e = .returned (fv u) ∧ Below V.heap.size V w') := Lib.hid (fun V => rfields_any u V)
  have HGa : Hid (∀ V : World, Calls Try.prog 14 #[.int .i64 p, fv g] V fun e w' => e = .returned (uv v) ∧ Below V.heap.size V w') := Lib.hid (fun V => by rw [hv]; exact from_any p g V)
  have HGr : Hid (∀ V : World, Calls Try.prog 15 #[.int .i64 p, fv g] V fun e w' => e = .returned (uv v) ∧ Below V.heap.size V w') := Lib.hid (fun V => by rw [hv]; exact rfrom_any p g V)
  clear hrb hdb hbb hv hu hp hg
  go_wp2_with (fail)
  refine wp_region_noPanic ?_
  refine wp_region_held_drew (S := fun w' => Below w2.heap.size w2 w') (by kernel_rfl) (Below.refl _ _).drew (fun _ => ?_)
  have HC0 := Lib.hid ((Below.refl w2.heap.size w2).drew)
  have heq1 := eql_fld u
  have heq2 := eql_unit v
  refine wpAnyH_take (i := 0) (oi := ⟨some 9, Op.move (Operand.tmp 7), 4, _, _, none⟩) (v := ?vy0) rfl (by kernel_rfl) (by kernel_rfl) (by kernel_rfl) (fun _ _ _ h => h) (Or.inl ⟨by rfl, ?hy0⟩) HC0.out ?ry0
  case hy0 => (intro wz hSw; go_simp <;> with_reducible rfl)
  (try simp only [Act.put, List.setIfInBounds_toArray, List.set_cons_zero, List.set_cons_succ])
  refine wpAnyH_take (i := 1) (oi := ⟨some 10, Op.move (Operand.tmp 9), 4, _, _, none⟩) (v := ?vy1) rfl (by kernel_rfl) (by kernel_rfl) (by kernel_rfl) (fun _ _ _ h => h) (Or.inl ⟨by rfl, ?hy1⟩) HC0.out ?ry1
  case hy1 => (intro wz hSw; go_simp <;> with_reducible rfl)
  (try simp only [Act.put, List.setIfInBounds_toArray, List.set_cons_zero, List.set_cons_succ])
  refine wpAnyH_take (i := 2) (oi := ⟨some 11, Op.load 25 (Operand.tmp 3), 25, _, _, some (1, true)⟩) (v := ?vy2) rfl (by kernel_rfl) (by kernel_rfl) (by kernel_rfl) (fun _ _ _ h => h) (Or.inl ⟨by rfl, ?hy2⟩) HC0.out ?ry2
  case hy2 => (intro wz hSw; have hzz := cellOf' (HX2.out.of hSw HX2.out.lt); go_simp <;> with_reducible rfl)
  (try simp only [Act.put, List.setIfInBounds_toArray, List.set_cons_zero, List.set_cons_succ])
  refine wpAnyH_take (i := 4) (oi := ⟨some 13, Op.load 25 (Operand.tmp 3), 25, _, _, some (1, true)⟩) (v := ?vy4) rfl (by kernel_rfl) (by kernel_rfl) (by kernel_rfl) (fun _ _ _ h => h) (Or.inl ⟨by rfl, ?hy4⟩) HC0.out ?ry4
  case hy4 => (intro wz hSw; have hzz := cellOf' (HX2.out.of hSw HX2.out.lt); go_simp <;> with_reducible rfl)
  (try simp only [Act.put, List.setIfInBounds_toArray, List.set_cons_zero, List.set_cons_succ])
  refine wpAnyH_ready (rs := [3]) (by kernel_rfl) (by simp) ?_
  refine AllReadyH.cons (o := ⟨some 12, Op.call { callee := Callee.value (Operand.func 6), args := #[Operand.tmp 11], argTypes := #[25] }, 4, _, _, some (1, true)⟩) rfl (fun K hK => ?_) AllReadyH.nil
  go_simp
  (with_reducible refine (HRi.out _).mono ?_); rintro e x1 ⟨rfl, hb1⟩; have HC1 := Lib.hid (below_more HC0.out hb1); clear hb1
  refine hK.out _ _ HC1.out (fun _ => ?_)
  clear hK K
  (try simp only [Act.put, List.setIfInBounds_toArray, List.set_cons_zero, List.set_cons_succ])
  refine wpAnyH_ready (rs := [5]) (by kernel_rfl) (by simp) ?_
  refine AllReadyH.cons (o := ⟨some 14, Op.call { callee := Callee.value (Operand.func 7), args := #[Operand.tmp 13], argTypes := #[25] }, 4, _, _, some (1, true)⟩) rfl (fun K hK => ?_) AllReadyH.nil
  go_simp
  (with_reducible refine (HRr.out _).mono ?_); rintro e x2 ⟨rfl, hb2⟩; have HC2 := Lib.hid (below_more HC1.out hb2); clear hb2
  refine hK.out _ _ HC2.out (fun _ => ?_)
  clear hK K
  (try simp only [Act.put, List.setIfInBounds_toArray, List.set_cons_zero, List.set_cons_succ])
  refine wpAnyH_take (i := 6) (oi := ⟨some 15, Op.binOp BinOp.eql 4 (Operand.tmp 12) (Operand.tmp 14) 4, 4, _, _, some (1, true)⟩) (v := ?vy6) rfl (by kernel_rfl) (by kernel_rfl) (by kernel_rfl) (fun _ _ _ h => h) (Or.inl ⟨by rfl, ?hy6⟩) HC2.out ?ry6
  case hy6 => (intro wz hSw; go_simp <;> with_reducible rfl)
  (try simp only [Act.put, List.setIfInBounds_toArray, List.set_cons_zero, List.set_cons_succ])
  refine wpAnyH_take (i := 7) (oi := ⟨some 16, Op.pick (Operand.tmp 10) (Operand.tmp 15) (Operand.const (Value.bool false)), 4, _, _, none⟩) (v := ?vy7) rfl (by kernel_rfl) (by kernel_rfl) (by kernel_rfl) (fun _ _ _ h => h) (Or.inl ⟨by rfl, ?hy7⟩) HC2.out ?ry7
  case hy7 => (intro wz hSw; go_simp <;> with_reducible rfl)
  (try simp only [Act.put, List.setIfInBounds_toArray, List.set_cons_zero, List.set_cons_succ])
  refine wpAnyH_take (i := 8) (oi := ⟨some 17, Op.move (Operand.tmp 16), 4, _, _, none⟩) (v := ?vy8) rfl (by kernel_rfl) (by kernel_rfl) (by kernel_rfl) (fun _ _ _ h => h) (Or.inl ⟨by rfl, ?hy8⟩) HC2.out ?ry8
  case hy8 => (intro wz hSw; go_simp <;> with_reducible rfl)
  (try simp only [Act.put, List.setIfInBounds_toArray, List.set_cons_zero, List.set_cons_succ])
  refine wpAnyH_take (i := 9) (oi := ⟨some 18, Op.load 25 (Operand.tmp 3), 25, _, _, some (8, true)⟩) (v := ?vy9) rfl (by kernel_rfl) (by kernel_rfl) (by kernel_rfl) (fun _ _ _ h => h) (Or.inl ⟨by rfl, ?hy9⟩) HC2.out ?ry9
  case hy9 => (intro wz hSw; have hzz := cellOf' (HX2.out.of hSw HX2.out.lt); go_simp <;> with_reducible rfl)
  (try simp only [Act.put, List.setIfInBounds_toArray, List.set_cons_zero, List.set_cons_succ])
  refine wpAnyH_take (i := 11) (oi := ⟨some 20, Op.load 25 (Operand.tmp 3), 25, _, _, some (8, true)⟩) (v := ?vy11) rfl (by kernel_rfl) (by kernel_rfl) (by kernel_rfl) (fun _ _ _ h => h) (Or.inl ⟨by rfl, ?hy11⟩) HC2.out ?ry11
  case hy11 => (intro wz hSw; have hzz := cellOf' (HX2.out.of hSw HX2.out.lt); go_simp <;> with_reducible rfl)
  (try simp only [Act.put, List.setIfInBounds_toArray, List.set_cons_zero, List.set_cons_succ])
  refine wpAnyH_ready (rs := [10]) (by kernel_rfl) (by simp) ?_
  refine AllReadyH.cons (o := ⟨some 19, Op.call { callee := Callee.value (Operand.func 8), args := #[Operand.tmp 18], argTypes := #[25] }, 4, _, _, some (8, true)⟩) rfl (fun K hK => ?_) AllReadyH.nil
  go_simp
  (with_reducible refine (HDa.out _).mono ?_); rintro e x3 ⟨rfl, hb3⟩; have HC3 := Lib.hid (below_more HC2.out hb3); clear hb3
  refine hK.out _ _ HC3.out (fun _ => ?_)
  clear hK K
  (try simp only [Act.put, List.setIfInBounds_toArray, List.set_cons_zero, List.set_cons_succ])
  refine wpAnyH_ready (rs := [12]) (by kernel_rfl) (by simp) ?_
  refine AllReadyH.cons (o := ⟨some 21, Op.call { callee := Callee.value (Operand.func 9), args := #[Operand.tmp 20], argTypes := #[25] }, 4, _, _, some (8, true)⟩) rfl (fun K hK => ?_) AllReadyH.nil
  go_simp
  (with_reducible refine (HDr.out _).mono ?_); rintro e x4 ⟨rfl, hb4⟩; have HC4 := Lib.hid (below_more HC3.out hb4); clear hb4
  refine hK.out _ _ HC4.out (fun _ => ?_)
  clear hK K
  (try simp only [Act.put, List.setIfInBounds_toArray, List.set_cons_zero, List.set_cons_succ])
  refine wpAnyH_take (i := 13) (oi := ⟨some 22, Op.binOp BinOp.eql 4 (Operand.tmp 19) (Operand.tmp 21) 4, 4, _, _, some (8, true)⟩) (v := ?vy13) rfl (by kernel_rfl) (by kernel_rfl) (by kernel_rfl) (fun _ _ _ h => h) (Or.inl ⟨by rfl, ?hy13⟩) HC4.out ?ry13
  case hy13 => (intro wz hSw; go_simp <;> with_reducible rfl)
  (try simp only [Act.put, List.setIfInBounds_toArray, List.set_cons_zero, List.set_cons_succ])
  refine wpAnyH_take (i := 14) (oi := ⟨some 23, Op.pick (Operand.tmp 17) (Operand.tmp 22) (Operand.const (Value.bool false)), 4, _, _, none⟩) (v := ?vy14) rfl (by kernel_rfl) (by kernel_rfl) (by kernel_rfl) (fun _ _ _ h => h) (Or.inl ⟨by rfl, ?hy14⟩) HC4.out ?ry14
  case hy14 => (intro wz hSw; go_simp <;> with_reducible rfl)
  (try simp only [Act.put, List.setIfInBounds_toArray, List.set_cons_zero, List.set_cons_succ])
  refine wpAnyH_take (i := 15) (oi := ⟨some 24, Op.move (Operand.tmp 23), 4, _, _, none⟩) (v := ?vy15) rfl (by kernel_rfl) (by kernel_rfl) (by kernel_rfl) (fun _ _ _ h => h) (Or.inl ⟨by rfl, ?hy15⟩) HC4.out ?ry15
  case hy15 => (intro wz hSw; go_simp <;> with_reducible rfl)
  (try simp only [Act.put, List.setIfInBounds_toArray, List.set_cons_zero, List.set_cons_succ])
  refine wpAnyH_take (i := 16) (oi := ⟨some 25, Op.load 25 (Operand.tmp 3), 25, _, _, some (15, true)⟩) (v := ?vy16) rfl (by kernel_rfl) (by kernel_rfl) (by kernel_rfl) (fun _ _ _ h => h) (Or.inl ⟨by rfl, ?hy16⟩) HC4.out ?ry16
  case hy16 => (intro wz hSw; have hzz := cellOf' (HX2.out.of hSw HX2.out.lt); go_simp <;> with_reducible rfl)
  (try simp only [Act.put, List.setIfInBounds_toArray, List.set_cons_zero, List.set_cons_succ])
  refine wpAnyH_take (i := 17) (oi := ⟨some 26, Op.move (Operand.tmp 1), 3, _, _, some (15, true)⟩) (v := ?vy17) rfl (by kernel_rfl) (by kernel_rfl) (by kernel_rfl) (fun _ _ _ h => h) (Or.inl ⟨by rfl, ?hy17⟩) HC4.out ?ry17
  case hy17 => (intro wz hSw; go_simp <;> with_reducible rfl)
  (try simp only [Act.put, List.setIfInBounds_toArray, List.set_cons_zero, List.set_cons_succ])
  refine wpAnyH_take (i := 19) (oi := ⟨some 28, Op.load 25 (Operand.tmp 3), 25, _, _, some (15, true)⟩) (v := ?vy19) rfl (by kernel_rfl) (by kernel_rfl) (by kernel_rfl) (fun _ _ _ h => h) (Or.inl ⟨by rfl, ?hy19⟩) HC4.out ?ry19
  case hy19 => (intro wz hSw; have hzz := cellOf' (HX2.out.of hSw HX2.out.lt); go_simp <;> with_reducible rfl)
  (try simp only [Act.put, List.setIfInBounds_toArray, List.set_cons_zero, List.set_cons_succ])
  refine wpAnyH_take (i := 20) (oi := ⟨some 29, Op.move (Operand.tmp 1), 3, _, _, some (15, true)⟩) (v := ?vy20) rfl (by kernel_rfl) (by kernel_rfl) (by kernel_rfl) (fun _ _ _ h => h) (Or.inl ⟨by rfl, ?hy20⟩) HC4.out ?ry20
  case hy20 => (intro wz hSw; go_simp <;> with_reducible rfl)
  (try simp only [Act.put, List.setIfInBounds_toArray, List.set_cons_zero, List.set_cons_succ])
  refine wpAnyH_ready (rs := [18]) (by kernel_rfl) (by simp) ?_
  refine AllReadyH.cons (o := ⟨some 27, Op.call { callee := Callee.value (Operand.func 10), args := #[Operand.tmp 25, Operand.tmp 26], argTypes := #[25, 3] }, 4, _, _, some (15, true)⟩) rfl (fun K hK => ?_) AllReadyH.nil
  go_simp
  (with_reducible refine (HBa.out _).mono ?_); rintro e x5 ⟨rfl, hb5⟩; have HC5 := Lib.hid (below_more HC4.out hb5); clear hb5
  refine hK.out _ _ HC5.out (fun _ => ?_)
  clear hK K
  (try simp only [Act.put, List.setIfInBounds_toArray, List.set_cons_zero, List.set_cons_succ])
  refine wpAnyH_ready (rs := [21]) (by kernel_rfl) (by simp) ?_
  refine AllReadyH.cons (o := ⟨some 30, Op.call { callee := Callee.value (Operand.func 11), args := #[Operand.tmp 28, Operand.tmp 29], argTypes := #[25, 3] }, 4, _, _, some (15, true)⟩) rfl (fun K hK => ?_) AllReadyH.nil
  go_simp
  (with_reducible refine (HBr.out _).mono ?_); rintro e x6 ⟨rfl, hb6⟩; have HC6 := Lib.hid (below_more HC5.out hb6); clear hb6
  refine hK.out _ _ HC6.out (fun _ => ?_)
  clear hK K
  (try simp only [Act.put, List.setIfInBounds_toArray, List.set_cons_zero, List.set_cons_succ])
  refine wpAnyH_take (i := 22) (oi := ⟨some 31, Op.binOp BinOp.eql 4 (Operand.tmp 27) (Operand.tmp 30) 4, 4, _, _, some (15, true)⟩) (v := ?vy22) rfl (by kernel_rfl) (by kernel_rfl) (by kernel_rfl) (fun _ _ _ h => h) (Or.inl ⟨by rfl, ?hy22⟩) HC6.out ?ry22
  case hy22 => (intro wz hSw; go_simp <;> with_reducible rfl)
  (try simp only [Act.put, List.setIfInBounds_toArray, List.set_cons_zero, List.set_cons_succ])
  refine wpAnyH_take (i := 23) (oi := ⟨some 32, Op.pick (Operand.tmp 24) (Operand.tmp 31) (Operand.const (Value.bool false)), 4, _, _, none⟩) (v := ?vy23) rfl (by kernel_rfl) (by kernel_rfl) (by kernel_rfl) (fun _ _ _ h => h) (Or.inl ⟨by rfl, ?hy23⟩) HC6.out ?ry23
  case hy23 => (intro wz hSw; go_simp <;> with_reducible rfl)
  (try simp only [Act.put, List.setIfInBounds_toArray, List.set_cons_zero, List.set_cons_succ])
  refine wpAnyH_take (i := 24) (oi := ⟨some 33, Op.move (Operand.tmp 32), 4, _, _, none⟩) (v := ?vy24) rfl (by kernel_rfl) (by kernel_rfl) (by kernel_rfl) (fun _ _ _ h => h) (Or.inl ⟨by rfl, ?hy24⟩) HC6.out ?ry24
  case hy24 => (intro wz hSw; go_simp <;> with_reducible rfl)
  (try simp only [Act.put, List.setIfInBounds_toArray, List.set_cons_zero, List.set_cons_succ])
  refine wpAnyH_take (i := 25) (oi := ⟨some 34, Op.load 25 (Operand.tmp 3), 25, _, _, some (24, true)⟩) (v := ?vy25) rfl (by kernel_rfl) (by kernel_rfl) (by kernel_rfl) (fun _ _ _ h => h) (Or.inl ⟨by rfl, ?hy25⟩) HC6.out ?ry25
  case hy25 => (intro wz hSw; have hzz := cellOf' (HX2.out.of hSw HX2.out.lt); go_simp <;> with_reducible rfl)
  (try simp only [Act.put, List.setIfInBounds_toArray, List.set_cons_zero, List.set_cons_succ])
  refine wpAnyH_take (i := 27) (oi := ⟨some 36, Op.load 25 (Operand.tmp 3), 25, _, _, some (24, true)⟩) (v := ?vy27) rfl (by kernel_rfl) (by kernel_rfl) (by kernel_rfl) (fun _ _ _ h => h) (Or.inl ⟨by rfl, ?hy27⟩) HC6.out ?ry27
  case hy27 => (intro wz hSw; have hzz := cellOf' (HX2.out.of hSw HX2.out.lt); go_simp <;> with_reducible rfl)
  (try simp only [Act.put, List.setIfInBounds_toArray, List.set_cons_zero, List.set_cons_succ])
  refine wpAnyH_ready (rs := [26]) (by kernel_rfl) (by simp) ?_
  refine AllReadyH.cons (o := ⟨some 35, Op.call { callee := Callee.value (Operand.func 12), args := #[Operand.tmp 34], argTypes := #[25] }, 26, _, _, some (24, true)⟩) rfl (fun K hK => ?_) AllReadyH.nil
  go_simp
  (with_reducible refine (HFa.out _).mono ?_); rintro e x7 ⟨rfl, hb7⟩; have HC7 := Lib.hid (below_more HC6.out hb7); clear hb7
  refine hK.out _ _ HC7.out (fun _ => ?_)
  clear hK K
  (try simp only [Act.put, List.setIfInBounds_toArray, List.set_cons_zero, List.set_cons_succ])
  refine wpAnyH_ready (rs := [28]) (by kernel_rfl) (by simp) ?_
  refine AllReadyH.cons (o := ⟨some 37, Op.call { callee := Callee.value (Operand.func 13), args := #[Operand.tmp 36], argTypes := #[25] }, 26, _, _, some (24, true)⟩) rfl (fun K hK => ?_) AllReadyH.nil
  go_simp
  (with_reducible refine (HFr.out _).mono ?_); rintro e x8 ⟨rfl, hb8⟩; have HC8 := Lib.hid (below_more HC7.out hb8); clear hb8
  refine hK.out _ _ HC8.out (fun _ => ?_)
  clear hK K
  (try simp only [Act.put, List.setIfInBounds_toArray, List.set_cons_zero, List.set_cons_succ])
  refine wpAnyH_take (i := 29) (oi := ⟨some 38, Op.binOp BinOp.eql 26 (Operand.tmp 35) (Operand.tmp 37) 26, 4, _, _, some (24, true)⟩) (v := ?vy29) rfl (by kernel_rfl) (by kernel_rfl) (by kernel_rfl) (fun _ _ _ h => h) (Or.inl ⟨by rfl, ?hy29⟩) HC8.out ?ry29
  case hy29 => (intro wz hSw; go_simp <;> with_reducible rfl)
  (try simp only [Act.put, List.setIfInBounds_toArray, List.set_cons_zero, List.set_cons_succ])
  refine wpAnyH_take (i := 30) (oi := ⟨some 39, Op.pick (Operand.tmp 33) (Operand.tmp 38) (Operand.const (Value.bool false)), 4, _, _, none⟩) (v := ?vy30) rfl (by kernel_rfl) (by kernel_rfl) (by kernel_rfl) (fun _ _ _ h => h) (Or.inl ⟨by rfl, ?hy30⟩) HC8.out ?ry30
  case hy30 => (intro wz hSw; go_simp <;> with_reducible rfl)
  (try simp only [Act.put, List.setIfInBounds_toArray, List.set_cons_zero, List.set_cons_succ])
  refine wpAnyH_take (i := 31) (oi := ⟨some 40, Op.move (Operand.tmp 39), 4, _, _, none⟩) (v := ?vy31) rfl (by kernel_rfl) (by kernel_rfl) (by kernel_rfl) (fun _ _ _ h => h) (Or.inl ⟨by rfl, ?hy31⟩) HC8.out ?ry31
  case hy31 => (intro wz hSw; go_simp <;> with_reducible rfl)
  (try simp only [Act.put, List.setIfInBounds_toArray, List.set_cons_zero, List.set_cons_succ])
  refine wpAnyH_take (i := 32) (oi := ⟨some 41, Op.move (Operand.tmp 1), 3, _, _, some (31, true)⟩) (v := ?vy32) rfl (by kernel_rfl) (by kernel_rfl) (by kernel_rfl) (fun _ _ _ h => h) (Or.inl ⟨by rfl, ?hy32⟩) HC8.out ?ry32
  case hy32 => (intro wz hSw; go_simp <;> with_reducible rfl)
  (try simp only [Act.put, List.setIfInBounds_toArray, List.set_cons_zero, List.set_cons_succ])
  refine wpAnyH_take (i := 33) (oi := ⟨some 42, Op.load 26 (Operand.tmp 5), 26, _, _, some (31, true)⟩) (v := ?vy33) rfl (by kernel_rfl) (by kernel_rfl) (by kernel_rfl) (fun _ _ _ h => h) (Or.inl ⟨by rfl, ?hy33⟩) HC8.out ?ry33
  case hy33 => (intro wz hSw; have hzz := cellOf' ((hSw.block _ (lt_of_block HF2.out)).trans HF2.out); go_simp <;> with_reducible rfl)
  (try simp only [Act.put, List.setIfInBounds_toArray, List.set_cons_zero, List.set_cons_succ])
  refine wpAnyH_take (i := 35) (oi := ⟨some 44, Op.move (Operand.tmp 1), 3, _, _, some (31, true)⟩) (v := ?vy35) rfl (by kernel_rfl) (by kernel_rfl) (by kernel_rfl) (fun _ _ _ h => h) (Or.inl ⟨by rfl, ?hy35⟩) HC8.out ?ry35
  case hy35 => (intro wz hSw; go_simp <;> with_reducible rfl)
  (try simp only [Act.put, List.setIfInBounds_toArray, List.set_cons_zero, List.set_cons_succ])
  refine wpAnyH_take (i := 36) (oi := ⟨some 45, Op.load 26 (Operand.tmp 5), 26, _, _, some (31, true)⟩) (v := ?vy36) rfl (by kernel_rfl) (by kernel_rfl) (by kernel_rfl) (fun _ _ _ h => h) (Or.inl ⟨by rfl, ?hy36⟩) HC8.out ?ry36
  case hy36 => (intro wz hSw; have hzz := cellOf' ((hSw.block _ (lt_of_block HF2.out)).trans HF2.out); go_simp <;> with_reducible rfl)
  (try simp only [Act.put, List.setIfInBounds_toArray, List.set_cons_zero, List.set_cons_succ])
  refine wpAnyH_ready (rs := [34]) (by kernel_rfl) (by simp) ?_
  refine AllReadyH.cons (o := ⟨some 43, Op.call { callee := Callee.value (Operand.func 14), args := #[Operand.tmp 41, Operand.tmp 42], argTypes := #[3, 26] }, 25, _, _, some (31, true)⟩) rfl (fun K hK => ?_) AllReadyH.nil
  go_simp
  (with_reducible refine (HGa.out _).mono ?_); rintro e x9 ⟨rfl, hb9⟩; have HC9 := Lib.hid (below_more HC8.out hb9); clear hb9
  refine hK.out _ _ HC9.out (fun _ => ?_)
  clear hK K
  (try simp only [Act.put, List.setIfInBounds_toArray, List.set_cons_zero, List.set_cons_succ])
  refine wpAnyH_ready (rs := [37]) (by kernel_rfl) (by simp) ?_
  refine AllReadyH.cons (o := ⟨some 46, Op.call { callee := Callee.value (Operand.func 15), args := #[Operand.tmp 44, Operand.tmp 45], argTypes := #[3, 26] }, 25, _, _, some (31, true)⟩) rfl (fun K hK => ?_) AllReadyH.nil
  go_simp
  (with_reducible refine (HGr.out _).mono ?_); rintro e x10 ⟨rfl, hb10⟩; have HC10 := Lib.hid (below_more HC9.out hb10); clear hb10
  refine hK.out _ _ HC10.out (fun _ => ?_)
  clear hK K
  (try simp only [Act.put, List.setIfInBounds_toArray, List.set_cons_zero, List.set_cons_succ])
  refine wpAnyH_take (i := 38) (oi := ⟨some 47, Op.binOp BinOp.eql 25 (Operand.tmp 43) (Operand.tmp 46) 25, 4, _, _, some (31, true)⟩) (v := ?vy38) rfl (by kernel_rfl) (by kernel_rfl) (by kernel_rfl) (fun _ _ _ h => h) (Or.inl ⟨by rfl, ?hy38⟩) HC10.out ?ry38
  case hy38 => (intro wz hSw; go_simp <;> with_reducible rfl)
  (try simp only [Act.put, List.setIfInBounds_toArray, List.set_cons_zero, List.set_cons_succ])
  refine wpAnyH_take (i := 39) (oi := ⟨some 48, Op.pick (Operand.tmp 40) (Operand.tmp 47) (Operand.const (Value.bool false)), 4, _, _, none⟩) (v := ?vy39) rfl (by kernel_rfl) (by kernel_rfl) (by kernel_rfl) (fun _ _ _ h => h) (Or.inl ⟨by rfl, ?hy39⟩) HC10.out ?ry39
  case hy39 => (intro wz hSw; go_simp <;> with_reducible rfl)
  (try simp only [Act.put, List.setIfInBounds_toArray, List.set_cons_zero, List.set_cons_succ])
  refine wpAnyH_take (i := 40) (oi := ⟨some 6, Op.assign (Operand.tmp 48), 4, _, _, none⟩) (v := ?vy40) rfl (by kernel_rfl) (by kernel_rfl) (by kernel_rfl) (fun _ _ _ h => h) (Or.inl ⟨by rfl, ?hy40⟩) HC10.out ?ry40
  case hy40 => (intro wz hSw; go_simp <;> with_reducible rfl)
  (try simp only [Act.put, List.setIfInBounds_toArray, List.set_cons_zero, List.set_cons_succ])
  refine wpAnyH_done (by kernel_rfl) ?_ _
  refine NoPanic.normal ?_
  have HFin := Lib.hid (HC10.out)
  go_wp2
  go_ret
  exact ⟨rfl, below_more HB2.out HFin.out⟩


set_option maxRecDepth 100000 in
theorem lifted (os : Os) (started : os.Started) (H : Type) (enc : TypeId × Value → H) :
    ReturnsInHanded {} Try.checked os 3 .any (Rows.bodyTellsSpec.pre6 enc Try.prog Try.f3 Rows.bodyTellsRow.domain false) (Rows.bodyTellsSpec.post enc Try.prog Try.f3 false true false false) := by
  refine returnsInHanded_of_change (C := Try.checked) own started (by kernel_rfl) Try.func3
    (ChangeSpec.witness6 (enc := enc) (C := Try.checked) false ⟨#[], #[.agg #[.int .i64 0, .int .i64 0, .int .i64 0, .int .i64 0, .int .i64 0, .int .i64 0, .int .i64 0, .int .i64 0, .int .i64 0, .int .i64 0], .int .i64 0, .agg #[.int .i64 0, .int .i64 0, .int .i64 0, .int .i64 0, .int .i64 0, .int .i64 0, .int .i64 0, .int .i64 0, .int .i64 0]], []⟩ 8 (by kernel_rfl) (by kernel_rfl) (by kernel_rfl) (by kernel_rfl)) ?_
  intro W base args ds gs before hval0 hW hcnd _
  have hval : ∀ (j : Nat) t v, Try.f3.params[j]? = some t → args[j]? = some v → Value.okWide Try.prog W .any base t v := hval0
  have hW' := hW
  obtain ⟨p, q, hA0, hV, rfl, hfz, hnd⟩ := hW
  have hA : DataW.TrodAll enc Try.prog W 0 (fun _ => true) true Try.f3.params.toList args.toList ds p := hA0
  rw [Try.params3] at hA hval
  obtain ⟨v0, vs0, d0, ds0, p0, q0, hargs, rfl, rfl, h0, r0⟩ := trodAll_cons hA
  obtain ⟨v1, vs1, d1, ds1, p1, q1, rfl, rfl, rfl, h1, r1⟩ := trodAll_cons r0
  obtain ⟨v2, vs2, d2, ds2, p2, q2, rfl, rfl, rfl, h2, r2⟩ := trodAll_cons r1
  obtain ⟨rfl, rfl, rfl⟩ := trodAll_nil r2
  obtain rfl : args = #[v0, v1, v2] := by cases args; simp_all
  obtain ⟨rfl, rfl⟩ := trodVars_none hV
  clear hA0 hval0
  have hlt0 : ∀ x ∈ p0, x.block < W.heap.size := fun x hx => hW'.lt x (by simp [hx])
  have hk0 := h0
  obtain ⟨u0, rfl, hf0⟩ := Bop.viewU (hval 0 25 v0 rfl rfl) h0
  obtain ⟨a1, rfl, rfl, rfl, w1⟩ := open_int Try.underlying3 (hval 1 3 v1 rfl rfl) h1
  have hlt2 : ∀ x ∈ p2, x.block < W.heap.size := fun x hx => hW'.lt x (by simp [hx])
  have hk2 := h2
  obtain ⟨u2, rfl, hf2⟩ := Bop.viewF (hval 2 26 v2 rfl rfl) h2
  simp only [List.append_nil] at hW'
  refine (walk W u0 hf0 a1 (Bop.fits_of w1) u2 hf2).mono fun e W' ⟨he, hg⟩ => ?_
  subst he
  exact ⟨_, rfl, _, _, _, [], _, [], hW', (trodAll_cons_mk (shut_bool Try.underlying4 _) trodAll_mk0), (trodAll_cons_mk (Below.trod Bop.laidOut (by kernel_rfl) (of_decide_eq_true (by kernel_rfl)) hk0 hg hlt0) (trodAll_cons_mk (shut_int Try.underlying3 w1) (trodAll_cons_mk (Below.trod Bop.laidOut (by kernel_rfl) (of_decide_eq_true (by kernel_rfl)) hk2 hg hlt2) trodAll_mk0))), rfl, hg.frame _, fun h => by cases h⟩

theorem over : Rows.bodyTellsRow.holds Try.pinned (OpenSpec.ofChange Rows.bodyTellsSpec) :=
  OpenClaim.holds_of_wide 3 Try.f3 rfl rfl rfl rfl rfl rfl rfl ⟨rfl, rfl, rfl, rfl, rfl⟩ rfl rfl rfl rfl rfl (by kernel_rfl) Try.func3 (by kernel_rfl)
    (of_decide_eq_true (by kernel_rfl)) (by unfold Func.isWrapper; first | (rw [if_pos (by decide +kernel)]; kernel_rfl) | (rw [if_neg (by decide +kernel)]; exact ⟨rfl, rfl⟩))
    (fun os started H enc _ => lifted os started H enc)

/-- The given statement. -/
theorem proved : Rows.BodyTellsSaid :=
  over
#print axioms proved
end Go.Proofs.Ytegpbdffddpmhaa.bodyTells
