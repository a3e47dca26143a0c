/-
  BodyParts: for every unit and every two numbers the law answers true (what is hurt and healed by as much is as it was, unless it died; hurts in two parts are one); no condition.
-/
import Derived.Test.YtegpbdffddpmhaaSma
import Derived.Test.YtegpbdffddpmhaaBpl
import Derived.Test.YtegpbdffddpmhaaBop
import Derived.WalkKit
import Derived.ProofKit
import Derived.OpenShut
namespace Go.Proofs.Ytegpbdffddpmhaa.bodyParts
open Go.ChangeShapes Go.WideShapes Go.ChangeAt Go.RowKit Con
set_option linter.unusedVariables false

theorem own : ownKnob Try.prog.godebug = none := by kernel_rfl

set_option maxRecDepth 100000 in
set_option maxHeartbeats 2000000 in
theorem wrong (w : World) (u : Un) (n m : Int) (hr : rtU u = false) :
    Calls Try.prog 4 #[uv u, .int .i64 n, .int .i64 m] w fun e w' => e = .returned (.bool true) ∧ Below w.heap.size w w' := by
  have HRi : Hid (∀ V : World, Calls Try.prog 6 #[uv u] V fun e w' => e = .returned (.bool false) ∧ Below V.heap.size V w') := Lib.hid (fun V => by rw [← hr]; exact right_any u V)
  clear hr
  have HB0 := Lib.hid (below_box (w := w) u)
  have HX0 := Lib.hid (Bx.new w u)
  go_enter Try.func4, Try.ntmps4
  go_wp2_with (fail)
  generalize w.alloc (oU u) = w0 at *
  (with_reducible refine (small_any _).mono ?_); rintro e w1 ⟨rfl, hB1⟩
  have HX1 := Lib.hid (HX0.out.of hB1 HX0.out.lt)
  have HB1 := Lib.hid (below_more HB0.out hB1)
  clear hB1
  have zX := cellOf' HX1.out
  go_wp2_with (fail)
  (with_reducible refine (HRi.out _).mono ?_); rintro e w2 ⟨rfl, hB2⟩
  have HB2 := Lib.hid (below_more HB1.out hB2)
  clear hB2
  go_wp2
  go_ret
  exact ⟨rfl, HB2.out⟩
set_option maxRecDepth 100000 in
set_option maxHeartbeats 2000000 in
theorem low_n (w : World) (u : Un) (n m : Int) (hr : rtU u = true) (hn : n < 0) :
    Calls Try.prog 4 #[uv u, .int .i64 n, .int .i64 m] w fun e w' => e = .returned (.bool true) ∧ Below w.heap.size w w' := by
  have HRi : Hid (∀ V : World, Calls Try.prog 6 #[uv u] V fun e w' => e = .returned (.bool true) ∧ Below V.heap.size V w') := Lib.hid (fun V => by rw [← hr]; exact right_any u V)
  clear hr
  have HB0 := Lib.hid (below_box (w := w) u)
  have HX0 := Lib.hid (Bx.new w u)
  go_enter Try.func4, Try.ntmps4
  go_wp2_with (fail)
  generalize w.alloc (oU u) = w0 at *
  (with_reducible refine (small_any _).mono ?_); rintro e w1 ⟨rfl, hB1⟩
  have HX1 := Lib.hid (HX0.out.of hB1 HX0.out.lt)
  have HB1 := Lib.hid (below_more HB0.out hB1)
  clear hB1
  have zX := cellOf' HX1.out
  go_wp2_with (fail)
  (with_reducible refine (HRi.out _).mono ?_); rintro e w2 ⟨rfl, hB2⟩
  have HB2 := Lib.hid (below_more HB1.out hB2)
  clear hB2
  go_wp2
  go_ret
  exact ⟨rfl, HB2.out⟩
set_option maxRecDepth 100000 in
set_option maxHeartbeats 2000000 in
theorem low_m (w : World) (u : Un) (n m : Int) (hr : rtU u = true) (hn : 0 ≤ n) (hm : m < 0) :
    Calls Try.prog 4 #[uv u, .int .i64 n, .int .i64 m] w fun e w' => e = .returned (.bool true) ∧ Below w.heap.size w w' := by
  have HRi : Hid (∀ V : World, Calls Try.prog 6 #[uv u] V fun e w' => e = .returned (.bool true) ∧ Below V.heap.size V w') := Lib.hid (fun V => by rw [← hr]; exact right_any u V)
  have hn' : decide (n < 0) = false := by simpa using hn
  clear hr
  have HB0 := Lib.hid (below_box (w := w) u)
  have HX0 := Lib.hid (Bx.new w u)
  go_enter Try.func4, Try.ntmps4
  go_wp2_with (fail)
  generalize w.alloc (oU u) = w0 at *
  (with_reducible refine (small_any _).mono ?_); rintro e w1 ⟨rfl, hB1⟩
  have HX1 := Lib.hid (HX0.out.of hB1 HX0.out.lt)
  have HB1 := Lib.hid (below_more HB0.out hB1)
  clear hB1
  have zX := cellOf' HX1.out
  go_wp2_with (fail)
  (with_reducible refine (HRi.out _).mono ?_); rintro e w2 ⟨rfl, hB2⟩
  have HB2 := Lib.hid (below_more HB1.out hB2)
  clear hB2
  go_wp2
  go_ret
  exact ⟨rfl, HB2.out⟩
set_option maxRecDepth 100000 in
set_option maxHeartbeats 8000000 in
theorem inner_live (w : World) (u a c : Un) (n m s i j k l : Int) (hn : 0 ≤ n) (hm : 0 ≤ m) (hi : 0 ≤ i ∧ i ≤ 1000000) (hk : 0 ≤ k ∧ k ≤ 1000000) (hl : i + k = l)
    (HRi : Hid (∀ V : World, Calls Try.prog 6 #[uv u] V fun e w' => e = .returned (.bool true) ∧ Below V.heap.size V w'))
    (HHa : Hid (∀ V : World, Calls Try.prog 16 #[uv u, .int .i64 n] V fun e w' => e = .returned (.tuple #[uv a, .int .i64 i]) ∧ Below V.heap.size V w'))
    (HHe : Hid (∀ V : World, Calls Try.prog 17 #[uv a, .int .i64 i] V fun e w' => e = .returned (.tuple #[uv u, .int .i64 i]) ∧ Below V.heap.size V w'))
    (HHc : Hid (∀ V : World, Calls Try.prog 16 #[uv a, .int .i64 m] V fun e w' => e = .returned (.tuple #[uv c, .int .i64 k]) ∧ Below V.heap.size V w'))
    (HAd : Hid (∀ V : World, Calls Try.prog 18 #[.int .i64 n, .int .i64 m] V fun e w' => e = .returned (.int .i64 s) ∧ V = w'))
    (HHd : Hid (∀ V : World, Calls Try.prog 16 #[uv u, .int .i64 s] V fun e w' => e = .returned (.tuple #[uv c, .int .i64 l]) ∧ Below V.heap.size V w'))
    (HDe : Hid (∀ V : World, Calls Try.prog 8 #[uv a] V fun e w' => e = .returned (.bool false) ∧ Below V.heap.size V w')) :
    Calls Try.prog 4 #[uv u, .int .i64 n, .int .i64 m] w fun e w' => e = .returned (.bool true) ∧ Below w.heap.size w w' := by
  obtain ⟨hi0, hi1⟩ := hi
  obtain ⟨hk0, hk1⟩ := hk
  have hn' : decide (n < 0) = false := by simpa using hn
  have hm' : decide (m < 0) = false := by simpa using hm
  subst hl
  have HB0 := Lib.hid (below_box (w := w) u)
  have HX0 := Lib.hid (Bx.new w u)
  go_enter Try.func4, Try.ntmps4
  go_wp2_with (fail)
  generalize w.alloc (oU u) = w0 at *
  (with_reducible refine (small_any _).mono ?_); rintro e w1 ⟨rfl, hB1⟩
  have HX1 := Lib.hid (HX0.out.of hB1 HX0.out.lt)
  have HB1 := Lib.hid (below_more HB0.out hB1)
  clear hB1
  have zX := cellOf' HX1.out
  go_wp2_with (fail)
  clear zX
  (with_reducible refine (HRi.out _).mono ?_); rintro e w2 ⟨rfl, hB2⟩
  have HX2 := Lib.hid (HX1.out.of hB2 HX1.out.lt)
  have HB2 := Lib.hid (below_more HB1.out hB2)
  clear hB2
  have zX := cellOf' HX2.out
  go_wp2_with (fail)
  clear zX
  (with_reducible refine (HHa.out _).mono ?_); rintro e w3 ⟨rfl, hB3⟩
  have HX3 := Lib.hid (HX2.out.of hB3 HX2.out.lt)
  have HB3 := Lib.hid (below_more HB2.out hB3)
  clear hB3
  have HX4 := Lib.hid (HX3.out.alloc (.cells #[.int .i64 a.i, .int .i64 a.k, .int .i64 a.g, .int .i64 a.h, .int .i64 a.m, .int .i64 a.p, .int .i64 a.q, .int .i64 a.x, .int .i64 a.y, .int .i64 a.c] 25))
  have zHX := cellOf' HX3.out
  have lHX := HX3.out.lt
  have HA4 : Hid (Bx (w3.alloc (.cells #[.int .i64 a.i, .int .i64 a.k, .int .i64 a.g, .int .i64 a.h, .int .i64 a.m, .int .i64 a.p, .int .i64 a.q, .int .i64 a.x, .int .i64 a.y, .int .i64 a.c] 25)) w3.heap.size a) := Lib.hid (Bx.new w3 a)
  have HB4 := Lib.hid (HB3.out.alloc HB3.out.size (.cells #[.int .i64 a.i, .int .i64 a.k, .int .i64 a.g, .int .i64 a.h, .int .i64 a.m, .int .i64 a.p, .int .i64 a.q, .int .i64 a.x, .int .i64 a.y, .int .i64 a.c] 25))
  go_wp2_with (fail)
  clear zHX lHX
  generalize w3.alloc (.cells #[.int .i64 a.i, .int .i64 a.k, .int .i64 a.g, .int .i64 a.h, .int .i64 a.m, .int .i64 a.p, .int .i64 a.q, .int .i64 a.x, .int .i64 a.y, .int .i64 a.c] 25) = w4 at *
  (with_reducible refine (HHe.out _).mono ?_); rintro e w5 ⟨rfl, hB5⟩
  have HX5 := Lib.hid (HX4.out.of hB5 HX4.out.lt)
  have HA5 := Lib.hid (HA4.out.of hB5 HA4.out.lt)
  have HB5 := Lib.hid (below_more HB4.out hB5)
  clear hB5
  have HX6 := Lib.hid (HX5.out.alloc (.cells #[.int .i64 u.i, .int .i64 u.k, .int .i64 u.g, .int .i64 u.h, .int .i64 u.m, .int .i64 u.p, .int .i64 u.q, .int .i64 u.x, .int .i64 u.y, .int .i64 u.c] 25))
  have zHX := cellOf' HX5.out
  have lHX := HX5.out.lt
  have HA6 := Lib.hid (HA5.out.alloc (.cells #[.int .i64 u.i, .int .i64 u.k, .int .i64 u.g, .int .i64 u.h, .int .i64 u.m, .int .i64 u.p, .int .i64 u.q, .int .i64 u.x, .int .i64 u.y, .int .i64 u.c] 25))
  have zHA := cellOf' HA5.out
  have lHA := HA5.out.lt
  have HBB6 : Hid (Bx (w5.alloc (.cells #[.int .i64 u.i, .int .i64 u.k, .int .i64 u.g, .int .i64 u.h, .int .i64 u.m, .int .i64 u.p, .int .i64 u.q, .int .i64 u.x, .int .i64 u.y, .int .i64 u.c] 25)) w5.heap.size u) := Lib.hid (Bx.new w5 u)
  have HB6 := Lib.hid (HB5.out.alloc HB5.out.size (.cells #[.int .i64 u.i, .int .i64 u.k, .int .i64 u.g, .int .i64 u.h, .int .i64 u.m, .int .i64 u.p, .int .i64 u.q, .int .i64 u.x, .int .i64 u.y, .int .i64 u.c] 25))
  go_wp2_with (fail)
  clear zHX lHX zHA lHA
  generalize w5.alloc (.cells #[.int .i64 u.i, .int .i64 u.k, .int .i64 u.g, .int .i64 u.h, .int .i64 u.m, .int .i64 u.p, .int .i64 u.q, .int .i64 u.x, .int .i64 u.y, .int .i64 u.c] 25) = w6 at *
  (with_reducible refine (HHc.out _).mono ?_); rintro e w7 ⟨rfl, hB7⟩
  have HX7 := Lib.hid (HX6.out.of hB7 HX6.out.lt)
  have HA7 := Lib.hid (HA6.out.of hB7 HA6.out.lt)
  have HBB7 := Lib.hid (HBB6.out.of hB7 HBB6.out.lt)
  have HB7 := Lib.hid (below_more HB6.out hB7)
  clear hB7
  have HX8 := Lib.hid (HX7.out.alloc (.cells #[.int .i64 c.i, .int .i64 c.k, .int .i64 c.g, .int .i64 c.h, .int .i64 c.m, .int .i64 c.p, .int .i64 c.q, .int .i64 c.x, .int .i64 c.y, .int .i64 c.c] 25))
  have zHX := cellOf' HX7.out
  have lHX := HX7.out.lt
  have HA8 := Lib.hid (HA7.out.alloc (.cells #[.int .i64 c.i, .int .i64 c.k, .int .i64 c.g, .int .i64 c.h, .int .i64 c.m, .int .i64 c.p, .int .i64 c.q, .int .i64 c.x, .int .i64 c.y, .int .i64 c.c] 25))
  have zHA := cellOf' HA7.out
  have lHA := HA7.out.lt
  have HBB8 := Lib.hid (HBB7.out.alloc (.cells #[.int .i64 c.i, .int .i64 c.k, .int .i64 c.g, .int .i64 c.h, .int .i64 c.m, .int .i64 c.p, .int .i64 c.q, .int .i64 c.x, .int .i64 c.y, .int .i64 c.c] 25))
  have zHBB := cellOf' HBB7.out
  have lHBB := HBB7.out.lt
  have HC8 : Hid (Bx (w7.alloc (.cells #[.int .i64 c.i, .int .i64 c.k, .int .i64 c.g, .int .i64 c.h, .int .i64 c.m, .int .i64 c.p, .int .i64 c.q, .int .i64 c.x, .int .i64 c.y, .int .i64 c.c] 25)) w7.heap.size c) := Lib.hid (Bx.new w7 c)
  have HB8 := Lib.hid (HB7.out.alloc HB7.out.size (.cells #[.int .i64 c.i, .int .i64 c.k, .int .i64 c.g, .int .i64 c.h, .int .i64 c.m, .int .i64 c.p, .int .i64 c.q, .int .i64 c.x, .int .i64 c.y, .int .i64 c.c] 25))
  go_wp2_with (fail)
  clear zHX lHX zHA lHA zHBB lHBB
  generalize w7.alloc (.cells #[.int .i64 c.i, .int .i64 c.k, .int .i64 c.g, .int .i64 c.h, .int .i64 c.m, .int .i64 c.p, .int .i64 c.q, .int .i64 c.x, .int .i64 c.y, .int .i64 c.c] 25) = w8 at *
  refine wp_region_noPanic ?_
  refine wp_region_held_drew (S := fun w' => Below w8.heap.size w8 w') (by kernel_rfl) (Below.refl _ _).drew (fun _ => ?_)
  have HC_0 := Lib.hid ((Below.refl w8.heap.size w8).drew)
  generalize w8.drew = v0 at HC_0 ⊢
  refine wpAnyH_take (i := 0) (oi := ⟨some 48, Op.load 25 (Operand.tmp 3), 25, _, _, none⟩) (v := ?vy0) rfl (by kernel_rfl) (by kernel_rfl) (by kernel_rfl) (fun _ _ _ h => h) (Or.inl ⟨by rfl, ?hy0⟩) HC_0.out ?ry0
  case hy0 => (intro wz hSw; have hzz := cellOf' (HX8.out.of hSw HX8.out.lt); go_simp <;> with_reducible rfl)
  (try simp only [Act.put, List.setIfInBounds_toArray, List.set_cons_zero, List.set_cons_succ])
  refine wpAnyH_take (i := 1) (oi := ⟨some 49, Op.move (Operand.tmp 1), 3, _, _, none⟩) (v := ?vy1) rfl (by kernel_rfl) (by kernel_rfl) (by kernel_rfl) (fun _ _ _ h => h) (Or.inl ⟨by rfl, ?hy1⟩) HC_0.out ?ry1
  case hy1 => (intro wz hSw; go_simp <;> with_reducible rfl)
  (try simp only [Act.put, List.setIfInBounds_toArray, List.set_cons_zero, List.set_cons_succ])
  refine wpAnyH_take (i := 2) (oi := ⟨some 50, Op.move (Operand.tmp 2), 3, _, _, none⟩) (v := ?vy2) rfl (by kernel_rfl) (by kernel_rfl) (by kernel_rfl) (fun _ _ _ h => h) (Or.inl ⟨by rfl, ?hy2⟩) HC_0.out ?ry2
  case hy2 => (intro wz hSw; go_simp <;> with_reducible rfl)
  (try simp only [Act.put, List.setIfInBounds_toArray, List.set_cons_zero, List.set_cons_succ])
  refine wpAnyH_ready (rs := [3, 8]) (by kernel_rfl) (by simp) ?_
  refine AllReadyH.cons (o := ⟨some 51, Op.call { callee := Callee.value (Operand.func 18), args := #[Operand.tmp 49, Operand.tmp 50], argTypes := #[3, 3] }, 3, _, _, none⟩) rfl (fun K hK => ?_) (AllReadyH.cons (o := ⟨some 14, Op.alloc 25, 0, _, _, none⟩) rfl (fun K hK => ?_) AllReadyH.nil)
  · go_simp
    (with_reducible refine (HAd.out _).mono ?_); rintro e xa1 ⟨rfl, rfl⟩
    refine hK.out _ _ HC_0.out (fun _ => ?_)
    clear hK K
    (try simp only [Act.put, List.setIfInBounds_toArray, List.set_cons_zero, List.set_cons_succ])
    refine wpAnyH_ready (rs := [4, 8]) (by kernel_rfl) (by simp) ?_
    refine AllReadyH.cons (o := ⟨some 52, Op.call { callee := Callee.value (Operand.func 16), args := #[Operand.tmp 48, Operand.tmp 51], argTypes := #[25, 3] }, 33, _, _, none⟩) rfl (fun K hK => ?_) (AllReadyH.cons (o := ⟨some 14, Op.alloc 25, 0, _, _, none⟩) rfl (fun K hK => ?_) AllReadyH.nil)
    · go_simp
      (with_reducible refine (HHd.out _).mono ?_); rintro e v2 ⟨rfl, hb2⟩; have HC_2 := Lib.hid (below_more HC_0.out hb2); clear hb2
      refine hK.out _ _ HC_2.out (fun _ => ?_)
      clear hK K
      (try simp only [Act.put, List.setIfInBounds_toArray, List.set_cons_zero, List.set_cons_succ])
      refine wpAnyH_take (i := 5) (oi := ⟨some 47, Op.move (Operand.tmp 52), 33, _, _, none⟩) (v := ?vyb3b45) rfl (by kernel_rfl) (by kernel_rfl) (by kernel_rfl) (fun _ _ _ h => h) (Or.inl ⟨by rfl, ?hyb3b45⟩) HC_2.out ?ryb3b45
      case hyb3b45 => (intro wz hSw; go_simp <;> with_reducible rfl)
      (try simp only [Act.put, List.setIfInBounds_toArray, List.set_cons_zero, List.set_cons_succ])
      refine wpAnyH_take (i := 6) (oi := ⟨some 53, Op.extract (Operand.tmp 47) 0, 25, _, _, none⟩) (v := ?vyb3b46) rfl (by kernel_rfl) (by kernel_rfl) (by kernel_rfl) (fun _ _ _ h => h) (Or.inl ⟨by rfl, ?hyb3b46⟩) HC_2.out ?ryb3b46
      case hyb3b46 => (intro wz hSw; go_simp <;> with_reducible rfl)
      (try simp only [Act.put, List.setIfInBounds_toArray, List.set_cons_zero, List.set_cons_succ])
      refine wpAnyH_take (i := 7) (oi := ⟨some 54, Op.extract (Operand.tmp 47) 1, 3, _, _, none⟩) (v := ?vyb3b47) rfl (by kernel_rfl) (by kernel_rfl) (by kernel_rfl) (fun _ _ _ h => h) (Or.inl ⟨by rfl, ?hyb3b47⟩) HC_2.out ?ryb3b47
      case hyb3b47 => (intro wz hSw; go_simp <;> with_reducible rfl)
      (try simp only [Act.put, List.setIfInBounds_toArray, List.set_cons_zero, List.set_cons_succ])
      refine wpAnyH_ready (rs := [8]) (by kernel_rfl) (by simp) ?_
      refine AllReadyH.cons (o := ⟨some 14, Op.alloc 25, 0, _, _, none⟩) rfl (fun K hK => ?_) AllReadyH.nil
      go_simp
      have HD_3 : Hid (Bx (v2.alloc (.cells #[.int .i64 0, .int .i64 0, .int .i64 0, .int .i64 0, .int .i64 0, .int .i64 0, .int .i64 0, .int .i64 0, .int .i64 0, .int .i64 0] 25)) v2.heap.size zU) := Lib.hid (Bx.new v2 zU); have HC_3 := Lib.hid (Below.alloc HC_2.out (Below.size HC_2.out) (.cells #[.int .i64 0, .int .i64 0, .int .i64 0, .int .i64 0, .int .i64 0, .int .i64 0, .int .i64 0, .int .i64 0, .int .i64 0, .int .i64 0] 25)); have HP_3 := Lib.hid (Below.size HC_2.out); generalize hP3 : v2.heap.size = P3 at HD_3 HP_3 ⊢; generalize v2.alloc (.cells #[.int .i64 0, .int .i64 0, .int .i64 0, .int .i64 0, .int .i64 0, .int .i64 0, .int .i64 0, .int .i64 0, .int .i64 0, .int .i64 0] 25) = v3 at HD_3 HC_3 ⊢; clear hP3
      refine hK.out _ _ HC_3.out (fun _ => ?_)
      clear hK K
      (try simp only [Act.put, List.setIfInBounds_toArray, List.set_cons_zero, List.set_cons_succ])
      refine wpAnyH_ready (rs := [9]) (by kernel_rfl) (by simp) ?_
      refine AllReadyH.cons (o := ⟨none, Op.store 25 (Operand.tmp 14) (Operand.tmp 53), 0, _, _, none⟩) rfl (fun K hK => ?_) AllReadyH.nil
      have hyz := cellOf' HD_3.out; have hyl := HD_3.out.lt; have hG := frozOf' HD_3.out
      go_simp
      have HD_4 := Lib.hid (HD_3.out.put c); have HC_4 := Lib.hid (below_put HC_3.out HP_3.out c); clear hyz hyl hG
      refine hK.out _ _ HC_4.out (fun _ => ?_)
      clear hK K
      (try simp only [Act.put, List.setIfInBounds_toArray, List.set_cons_zero, List.set_cons_succ])
      refine wpAnyH_take (i := 10) (oi := ⟨some 15, Op.assign (Operand.tmp 54), 3, _, _, none⟩) (v := ?vyb3b410) rfl (by kernel_rfl) (by kernel_rfl) (by kernel_rfl) (fun _ _ _ h => h) (Or.inl ⟨by rfl, ?hyb3b410⟩) HC_4.out ?ryb3b410
      case hyb3b410 => (intro wz hSw; go_simp <;> with_reducible rfl)
      (try simp only [Act.put, List.setIfInBounds_toArray, List.set_cons_zero, List.set_cons_succ])
      refine wpAnyH_done (by kernel_rfl) ?_ _
      refine NoPanic.normal ?_
      have HZf : Hid (Bx ((((((((((v3.setCell ⟨P3, 0, none⟩ (.int .i64 c.i)).setCell ⟨P3, 1, none⟩ (.int .i64 c.k)).setCell ⟨P3, 2, none⟩ (.int .i64 c.g)).setCell ⟨P3, 3, none⟩ (.int .i64 c.h)).setCell ⟨P3, 4, none⟩ (.int .i64 c.m)).setCell ⟨P3, 5, none⟩ (.int .i64 c.p)).setCell ⟨P3, 6, none⟩ (.int .i64 c.q)).setCell ⟨P3, 7, none⟩ (.int .i64 c.x)).setCell ⟨P3, 8, none⟩ (.int .i64 c.y)).setCell ⟨P3, 9, none⟩ (.int .i64 c.c)) P3 c) := HD_4
      have HSf : Below w8.heap.size w8 ((((((((((v3.setCell ⟨P3, 0, none⟩ (.int .i64 c.i)).setCell ⟨P3, 1, none⟩ (.int .i64 c.k)).setCell ⟨P3, 2, none⟩ (.int .i64 c.g)).setCell ⟨P3, 3, none⟩ (.int .i64 c.h)).setCell ⟨P3, 4, none⟩ (.int .i64 c.m)).setCell ⟨P3, 5, none⟩ (.int .i64 c.p)).setCell ⟨P3, 6, none⟩ (.int .i64 c.q)).setCell ⟨P3, 7, none⟩ (.int .i64 c.x)).setCell ⟨P3, 8, none⟩ (.int .i64 c.y)).setCell ⟨P3, 9, none⟩ (.int .i64 c.c)) := HC_4.out
      have HBf := Lib.hid (below_more HB8.out HSf)
      have HXf := Lib.hid (HX8.out.of HSf HX8.out.lt)
      have HAf := Lib.hid (HA8.out.of HSf HA8.out.lt)
      have HBBf := Lib.hid (HBB8.out.of HSf HBB8.out.lt)
      have HCf := Lib.hid (HC8.out.of HSf HC8.out.lt)
      clear HSf
      generalize ((((((((((v3.setCell ⟨P3, 0, none⟩ (.int .i64 c.i)).setCell ⟨P3, 1, none⟩ (.int .i64 c.k)).setCell ⟨P3, 2, none⟩ (.int .i64 c.g)).setCell ⟨P3, 3, none⟩ (.int .i64 c.h)).setCell ⟨P3, 4, none⟩ (.int .i64 c.m)).setCell ⟨P3, 5, none⟩ (.int .i64 c.p)).setCell ⟨P3, 6, none⟩ (.int .i64 c.q)).setCell ⟨P3, 7, none⟩ (.int .i64 c.x)).setCell ⟨P3, 8, none⟩ (.int .i64 c.y)).setCell ⟨P3, 9, none⟩ (.int .i64 c.c)) = vf at HZf HBf HXf HAf HBBf HCf ⊢
      have zA := cellOf' HAf.out
      have zB := cellOf' HBBf.out
      have zX := cellOf' HXf.out
      go_wp2_with (fail)
      (with_reducible refine (HDe.out _).mono ?_); rintro e vg ⟨rfl, hBg⟩
      have HXg := Lib.hid (HXf.out.of hBg HXf.out.lt)
      have HAg := Lib.hid (HAf.out.of hBg HAf.out.lt)
      have HBBg := Lib.hid (HBBf.out.of hBg HBBf.out.lt)
      have HCg := Lib.hid (HCf.out.of hBg HCf.out.lt)
      have HZg := Lib.hid (HZf.out.of hBg HZf.out.lt)
      have HBg := Lib.hid (below_more HBf.out hBg)
      clear hBg zA zB zX
      have zA := cellOf' HAg.out
      have zB := cellOf' HBBg.out
      have zX := cellOf' HXg.out
      go_wp2_with (fail)
      (with_reducible refine (HDe.out _).mono ?_); rintro e vh ⟨rfl, hBh⟩
      have HXh := Lib.hid (HXg.out.of hBh HXg.out.lt)
      have HAh := Lib.hid (HAg.out.of hBh HAg.out.lt)
      have HBBh := Lib.hid (HBBg.out.of hBh HBBg.out.lt)
      have HCh := Lib.hid (HCg.out.of hBh HCg.out.lt)
      have HZh := Lib.hid (HZg.out.of hBh HZg.out.lt)
      have HBh := Lib.hid (below_more HBg.out hBh)
      clear hBh zA zB zX
      have zA := cellOf' HAh.out
      have zB := cellOf' HBBh.out
      have zX := cellOf' HXh.out
      have zC := cellOf' HCh.out
      have zD := cellOf' HZh.out
      go_wp2
      go_ret
      exact ⟨rfl, HBh.out⟩
    · go_simp
      have HD_6 : Hid (Bx (v0.alloc (.cells #[.int .i64 0, .int .i64 0, .int .i64 0, .int .i64 0, .int .i64 0, .int .i64 0, .int .i64 0, .int .i64 0, .int .i64 0, .int .i64 0] 25)) v0.heap.size zU) := Lib.hid (Bx.new v0 zU); have HC_6 := Lib.hid (Below.alloc HC_0.out (Below.size HC_0.out) (.cells #[.int .i64 0, .int .i64 0, .int .i64 0, .int .i64 0, .int .i64 0, .int .i64 0, .int .i64 0, .int .i64 0, .int .i64 0, .int .i64 0] 25)); have HP_6 := Lib.hid (Below.size HC_0.out); generalize hP6 : v0.heap.size = P6 at HD_6 HP_6 ⊢; generalize v0.alloc (.cells #[.int .i64 0, .int .i64 0, .int .i64 0, .int .i64 0, .int .i64 0, .int .i64 0, .int .i64 0, .int .i64 0, .int .i64 0, .int .i64 0] 25) = v6 at HD_6 HC_6 ⊢; clear hP6
      refine hK.out _ _ HC_6.out (fun _ => ?_)
      clear hK K
      (try simp only [Act.put, List.setIfInBounds_toArray, List.set_cons_zero, List.set_cons_succ])
      refine wpAnyH_ready (rs := [4]) (by kernel_rfl) (by simp) ?_
      refine AllReadyH.cons (o := ⟨some 52, Op.call { callee := Callee.value (Operand.func 16), args := #[Operand.tmp 48, Operand.tmp 51], argTypes := #[25, 3] }, 33, _, _, none⟩) rfl (fun K hK => ?_) AllReadyH.nil
      go_simp
      (with_reducible refine (HHd.out _).mono ?_); rintro e v7 ⟨rfl, hb7⟩; have HC_7 := Lib.hid (below_more HC_6.out hb7); have HD_7 := Lib.hid (HD_6.out.of hb7 HD_6.out.lt); clear hb7
      refine hK.out _ _ HC_7.out (fun _ => ?_)
      clear hK K
      (try simp only [Act.put, List.setIfInBounds_toArray, List.set_cons_zero, List.set_cons_succ])
      refine wpAnyH_take (i := 5) (oi := ⟨some 47, Op.move (Operand.tmp 52), 33, _, _, none⟩) (v := ?vyb3b85) rfl (by kernel_rfl) (by kernel_rfl) (by kernel_rfl) (fun _ _ _ h => h) (Or.inl ⟨by rfl, ?hyb3b85⟩) HC_7.out ?ryb3b85
      case hyb3b85 => (intro wz hSw; go_simp <;> with_reducible rfl)
      (try simp only [Act.put, List.setIfInBounds_toArray, List.set_cons_zero, List.set_cons_succ])
      refine wpAnyH_take (i := 6) (oi := ⟨some 53, Op.extract (Operand.tmp 47) 0, 25, _, _, none⟩) (v := ?vyb3b86) rfl (by kernel_rfl) (by kernel_rfl) (by kernel_rfl) (fun _ _ _ h => h) (Or.inl ⟨by rfl, ?hyb3b86⟩) HC_7.out ?ryb3b86
      case hyb3b86 => (intro wz hSw; go_simp <;> with_reducible rfl)
      (try simp only [Act.put, List.setIfInBounds_toArray, List.set_cons_zero, List.set_cons_succ])
      refine wpAnyH_take (i := 7) (oi := ⟨some 54, Op.extract (Operand.tmp 47) 1, 3, _, _, none⟩) (v := ?vyb3b87) rfl (by kernel_rfl) (by kernel_rfl) (by kernel_rfl) (fun _ _ _ h => h) (Or.inl ⟨by rfl, ?hyb3b87⟩) HC_7.out ?ryb3b87
      case hyb3b87 => (intro wz hSw; go_simp <;> with_reducible rfl)
      (try simp only [Act.put, List.setIfInBounds_toArray, List.set_cons_zero, List.set_cons_succ])
      refine wpAnyH_ready (rs := [9]) (by kernel_rfl) (by simp) ?_
      refine AllReadyH.cons (o := ⟨none, Op.store 25 (Operand.tmp 14) (Operand.tmp 53), 0, _, _, none⟩) rfl (fun K hK => ?_) AllReadyH.nil
      have hyz := cellOf' HD_7.out; have hyl := HD_7.out.lt; have hG := frozOf' HD_7.out
      go_simp
      have HD_8 := Lib.hid (HD_7.out.put c); have HC_8 := Lib.hid (below_put HC_7.out HP_6.out c); clear hyz hyl hG
      refine hK.out _ _ HC_8.out (fun _ => ?_)
      clear hK K
      (try simp only [Act.put, List.setIfInBounds_toArray, List.set_cons_zero, List.set_cons_succ])
      refine wpAnyH_take (i := 10) (oi := ⟨some 15, Op.assign (Operand.tmp 54), 3, _, _, none⟩) (v := ?vyb3b810) rfl (by kernel_rfl) (by kernel_rfl) (by kernel_rfl) (fun _ _ _ h => h) (Or.inl ⟨by rfl, ?hyb3b810⟩) HC_8.out ?ryb3b810
      case hyb3b810 => (intro wz hSw; go_simp <;> with_reducible rfl)
      (try simp only [Act.put, List.setIfInBounds_toArray, List.set_cons_zero, List.set_cons_succ])
      refine wpAnyH_done (by kernel_rfl) ?_ _
      refine NoPanic.normal ?_
      have HZf : Hid (Bx ((((((((((v7.setCell ⟨P6, 0, none⟩ (.int .i64 c.i)).setCell ⟨P6, 1, none⟩ (.int .i64 c.k)).setCell ⟨P6, 2, none⟩ (.int .i64 c.g)).setCell ⟨P6, 3, none⟩ (.int .i64 c.h)).setCell ⟨P6, 4, none⟩ (.int .i64 c.m)).setCell ⟨P6, 5, none⟩ (.int .i64 c.p)).setCell ⟨P6, 6, none⟩ (.int .i64 c.q)).setCell ⟨P6, 7, none⟩ (.int .i64 c.x)).setCell ⟨P6, 8, none⟩ (.int .i64 c.y)).setCell ⟨P6, 9, none⟩ (.int .i64 c.c)) P6 c) := HD_8
      have HSf : Below w8.heap.size w8 ((((((((((v7.setCell ⟨P6, 0, none⟩ (.int .i64 c.i)).setCell ⟨P6, 1, none⟩ (.int .i64 c.k)).setCell ⟨P6, 2, none⟩ (.int .i64 c.g)).setCell ⟨P6, 3, none⟩ (.int .i64 c.h)).setCell ⟨P6, 4, none⟩ (.int .i64 c.m)).setCell ⟨P6, 5, none⟩ (.int .i64 c.p)).setCell ⟨P6, 6, none⟩ (.int .i64 c.q)).setCell ⟨P6, 7, none⟩ (.int .i64 c.x)).setCell ⟨P6, 8, none⟩ (.int .i64 c.y)).setCell ⟨P6, 9, none⟩ (.int .i64 c.c)) := HC_8.out
      have HBf := Lib.hid (below_more HB8.out HSf)
      have HXf := Lib.hid (HX8.out.of HSf HX8.out.lt)
      have HAf := Lib.hid (HA8.out.of HSf HA8.out.lt)
      have HBBf := Lib.hid (HBB8.out.of HSf HBB8.out.lt)
      have HCf := Lib.hid (HC8.out.of HSf HC8.out.lt)
      clear HSf
      generalize ((((((((((v7.setCell ⟨P6, 0, none⟩ (.int .i64 c.i)).setCell ⟨P6, 1, none⟩ (.int .i64 c.k)).setCell ⟨P6, 2, none⟩ (.int .i64 c.g)).setCell ⟨P6, 3, none⟩ (.int .i64 c.h)).setCell ⟨P6, 4, none⟩ (.int .i64 c.m)).setCell ⟨P6, 5, none⟩ (.int .i64 c.p)).setCell ⟨P6, 6, none⟩ (.int .i64 c.q)).setCell ⟨P6, 7, none⟩ (.int .i64 c.x)).setCell ⟨P6, 8, none⟩ (.int .i64 c.y)).setCell ⟨P6, 9, none⟩ (.int .i64 c.c)) = vf at HZf HBf HXf HAf HBBf HCf ⊢
      have zA := cellOf' HAf.out
      have zB := cellOf' HBBf.out
      have zX := cellOf' HXf.out
      go_wp2_with (fail)
      (with_reducible refine (HDe.out _).mono ?_); rintro e vg ⟨rfl, hBg⟩
      have HXg := Lib.hid (HXf.out.of hBg HXf.out.lt)
      have HAg := Lib.hid (HAf.out.of hBg HAf.out.lt)
      have HBBg := Lib.hid (HBBf.out.of hBg HBBf.out.lt)
      have HCg := Lib.hid (HCf.out.of hBg HCf.out.lt)
      have HZg := Lib.hid (HZf.out.of hBg HZf.out.lt)
      have HBg := Lib.hid (below_more HBf.out hBg)
      clear hBg zA zB zX
      have zA := cellOf' HAg.out
      have zB := cellOf' HBBg.out
      have zX := cellOf' HXg.out
      go_wp2_with (fail)
      (with_reducible refine (HDe.out _).mono ?_); rintro e vh ⟨rfl, hBh⟩
      have HXh := Lib.hid (HXg.out.of hBh HXg.out.lt)
      have HAh := Lib.hid (HAg.out.of hBh HAg.out.lt)
      have HBBh := Lib.hid (HBBg.out.of hBh HBBg.out.lt)
      have HCh := Lib.hid (HCg.out.of hBh HCg.out.lt)
      have HZh := Lib.hid (HZg.out.of hBh HZg.out.lt)
      have HBh := Lib.hid (below_more HBg.out hBh)
      clear hBh zA zB zX
      have zA := cellOf' HAh.out
      have zB := cellOf' HBBh.out
      have zX := cellOf' HXh.out
      have zC := cellOf' HCh.out
      have zD := cellOf' HZh.out
      go_wp2
      go_ret
      exact ⟨rfl, HBh.out⟩
  · go_simp
    have HD_10 : Hid (Bx (v0.alloc (.cells #[.int .i64 0, .int .i64 0, .int .i64 0, .int .i64 0, .int .i64 0, .int .i64 0, .int .i64 0, .int .i64 0, .int .i64 0, .int .i64 0] 25)) v0.heap.size zU) := Lib.hid (Bx.new v0 zU); have HC_10 := Lib.hid (Below.alloc HC_0.out (Below.size HC_0.out) (.cells #[.int .i64 0, .int .i64 0, .int .i64 0, .int .i64 0, .int .i64 0, .int .i64 0, .int .i64 0, .int .i64 0, .int .i64 0, .int .i64 0] 25)); have HP_10 := Lib.hid (Below.size HC_0.out); generalize hP10 : v0.heap.size = P10 at HD_10 HP_10 ⊢; generalize v0.alloc (.cells #[.int .i64 0, .int .i64 0, .int .i64 0, .int .i64 0, .int .i64 0, .int .i64 0, .int .i64 0, .int .i64 0, .int .i64 0, .int .i64 0] 25) = v10 at HD_10 HC_10 ⊢; clear hP10
    refine hK.out _ _ HC_10.out (fun _ => ?_)
    clear hK K
    (try simp only [Act.put, List.setIfInBounds_toArray, List.set_cons_zero, List.set_cons_succ])
    refine wpAnyH_ready (rs := [3]) (by kernel_rfl) (by simp) ?_
    refine AllReadyH.cons (o := ⟨some 51, Op.call { callee := Callee.value (Operand.func 18), args := #[Operand.tmp 49, Operand.tmp 50], argTypes := #[3, 3] }, 3, _, _, none⟩) rfl (fun K hK => ?_) AllReadyH.nil
    go_simp
    (with_reducible refine (HAd.out _).mono ?_); rintro e xa11 ⟨rfl, rfl⟩
    refine hK.out _ _ HC_10.out (fun _ => ?_)
    clear hK K
    (try simp only [Act.put, List.setIfInBounds_toArray, List.set_cons_zero, List.set_cons_succ])
    refine wpAnyH_ready (rs := [4]) (by kernel_rfl) (by simp) ?_
    refine AllReadyH.cons (o := ⟨some 52, Op.call { callee := Callee.value (Operand.func 16), args := #[Operand.tmp 48, Operand.tmp 51], argTypes := #[25, 3] }, 33, _, _, none⟩) rfl (fun K hK => ?_) AllReadyH.nil
    go_simp
    (with_reducible refine (HHd.out _).mono ?_); rintro e v12 ⟨rfl, hb12⟩; have HC_12 := Lib.hid (below_more HC_10.out hb12); have HD_12 := Lib.hid (HD_10.out.of hb12 HD_10.out.lt); clear hb12
    refine hK.out _ _ HC_12.out (fun _ => ?_)
    clear hK K
    (try simp only [Act.put, List.setIfInBounds_toArray, List.set_cons_zero, List.set_cons_succ])
    refine wpAnyH_take (i := 5) (oi := ⟨some 47, Op.move (Operand.tmp 52), 33, _, _, none⟩) (v := ?vyb85) rfl (by kernel_rfl) (by kernel_rfl) (by kernel_rfl) (fun _ _ _ h => h) (Or.inl ⟨by rfl, ?hyb85⟩) HC_12.out ?ryb85
    case hyb85 => (intro wz hSw; go_simp <;> with_reducible rfl)
    (try simp only [Act.put, List.setIfInBounds_toArray, List.set_cons_zero, List.set_cons_succ])
    refine wpAnyH_take (i := 6) (oi := ⟨some 53, Op.extract (Operand.tmp 47) 0, 25, _, _, none⟩) (v := ?vyb86) rfl (by kernel_rfl) (by kernel_rfl) (by kernel_rfl) (fun _ _ _ h => h) (Or.inl ⟨by rfl, ?hyb86⟩) HC_12.out ?ryb86
    case hyb86 => (intro wz hSw; go_simp <;> with_reducible rfl)
    (try simp only [Act.put, List.setIfInBounds_toArray, List.set_cons_zero, List.set_cons_succ])
    refine wpAnyH_take (i := 7) (oi := ⟨some 54, Op.extract (Operand.tmp 47) 1, 3, _, _, none⟩) (v := ?vyb87) rfl (by kernel_rfl) (by kernel_rfl) (by kernel_rfl) (fun _ _ _ h => h) (Or.inl ⟨by rfl, ?hyb87⟩) HC_12.out ?ryb87
    case hyb87 => (intro wz hSw; go_simp <;> with_reducible rfl)
    (try simp only [Act.put, List.setIfInBounds_toArray, List.set_cons_zero, List.set_cons_succ])
    refine wpAnyH_ready (rs := [9]) (by kernel_rfl) (by simp) ?_
    refine AllReadyH.cons (o := ⟨none, Op.store 25 (Operand.tmp 14) (Operand.tmp 53), 0, _, _, none⟩) rfl (fun K hK => ?_) AllReadyH.nil
    have hyz := cellOf' HD_12.out; have hyl := HD_12.out.lt; have hG := frozOf' HD_12.out
    go_simp
    have HD_13 := Lib.hid (HD_12.out.put c); have HC_13 := Lib.hid (below_put HC_12.out HP_10.out c); clear hyz hyl hG
    refine hK.out _ _ HC_13.out (fun _ => ?_)
    clear hK K
    (try simp only [Act.put, List.setIfInBounds_toArray, List.set_cons_zero, List.set_cons_succ])
    refine wpAnyH_take (i := 10) (oi := ⟨some 15, Op.assign (Operand.tmp 54), 3, _, _, none⟩) (v := ?vyb810) rfl (by kernel_rfl) (by kernel_rfl) (by kernel_rfl) (fun _ _ _ h => h) (Or.inl ⟨by rfl, ?hyb810⟩) HC_13.out ?ryb810
    case hyb810 => (intro wz hSw; go_simp <;> with_reducible rfl)
    (try simp only [Act.put, List.setIfInBounds_toArray, List.set_cons_zero, List.set_cons_succ])
    refine wpAnyH_done (by kernel_rfl) ?_ _
    refine NoPanic.normal ?_
    have HZf : Hid (Bx ((((((((((v12.setCell ⟨P10, 0, none⟩ (.int .i64 c.i)).setCell ⟨P10, 1, none⟩ (.int .i64 c.k)).setCell ⟨P10, 2, none⟩ (.int .i64 c.g)).setCell ⟨P10, 3, none⟩ (.int .i64 c.h)).setCell ⟨P10, 4, none⟩ (.int .i64 c.m)).setCell ⟨P10, 5, none⟩ (.int .i64 c.p)).setCell ⟨P10, 6, none⟩ (.int .i64 c.q)).setCell ⟨P10, 7, none⟩ (.int .i64 c.x)).setCell ⟨P10, 8, none⟩ (.int .i64 c.y)).setCell ⟨P10, 9, none⟩ (.int .i64 c.c)) P10 c) := HD_13
    have HSf : Below w8.heap.size w8 ((((((((((v12.setCell ⟨P10, 0, none⟩ (.int .i64 c.i)).setCell ⟨P10, 1, none⟩ (.int .i64 c.k)).setCell ⟨P10, 2, none⟩ (.int .i64 c.g)).setCell ⟨P10, 3, none⟩ (.int .i64 c.h)).setCell ⟨P10, 4, none⟩ (.int .i64 c.m)).setCell ⟨P10, 5, none⟩ (.int .i64 c.p)).setCell ⟨P10, 6, none⟩ (.int .i64 c.q)).setCell ⟨P10, 7, none⟩ (.int .i64 c.x)).setCell ⟨P10, 8, none⟩ (.int .i64 c.y)).setCell ⟨P10, 9, none⟩ (.int .i64 c.c)) := HC_13.out
    have HBf := Lib.hid (below_more HB8.out HSf)
    have HXf := Lib.hid (HX8.out.of HSf HX8.out.lt)
    have HAf := Lib.hid (HA8.out.of HSf HA8.out.lt)
    have HBBf := Lib.hid (HBB8.out.of HSf HBB8.out.lt)
    have HCf := Lib.hid (HC8.out.of HSf HC8.out.lt)
    clear HSf
    generalize ((((((((((v12.setCell ⟨P10, 0, none⟩ (.int .i64 c.i)).setCell ⟨P10, 1, none⟩ (.int .i64 c.k)).setCell ⟨P10, 2, none⟩ (.int .i64 c.g)).setCell ⟨P10, 3, none⟩ (.int .i64 c.h)).setCell ⟨P10, 4, none⟩ (.int .i64 c.m)).setCell ⟨P10, 5, none⟩ (.int .i64 c.p)).setCell ⟨P10, 6, none⟩ (.int .i64 c.q)).setCell ⟨P10, 7, none⟩ (.int .i64 c.x)).setCell ⟨P10, 8, none⟩ (.int .i64 c.y)).setCell ⟨P10, 9, none⟩ (.int .i64 c.c)) = vf at HZf HBf HXf HAf HBBf HCf ⊢
    have zA := cellOf' HAf.out
    have zB := cellOf' HBBf.out
    have zX := cellOf' HXf.out
    go_wp2_with (fail)
    (with_reducible refine (HDe.out _).mono ?_); rintro e vg ⟨rfl, hBg⟩
    have HXg := Lib.hid (HXf.out.of hBg HXf.out.lt)
    have HAg := Lib.hid (HAf.out.of hBg HAf.out.lt)
    have HBBg := Lib.hid (HBBf.out.of hBg HBBf.out.lt)
    have HCg := Lib.hid (HCf.out.of hBg HCf.out.lt)
    have HZg := Lib.hid (HZf.out.of hBg HZf.out.lt)
    have HBg := Lib.hid (below_more HBf.out hBg)
    clear hBg zA zB zX
    have zA := cellOf' HAg.out
    have zB := cellOf' HBBg.out
    have zX := cellOf' HXg.out
    go_wp2_with (fail)
    (with_reducible refine (HDe.out _).mono ?_); rintro e vh ⟨rfl, hBh⟩
    have HXh := Lib.hid (HXg.out.of hBh HXg.out.lt)
    have HAh := Lib.hid (HAg.out.of hBh HAg.out.lt)
    have HBBh := Lib.hid (HBBg.out.of hBh HBBg.out.lt)
    have HCh := Lib.hid (HCg.out.of hBh HCg.out.lt)
    have HZh := Lib.hid (HZg.out.of hBh HZg.out.lt)
    have HBh := Lib.hid (below_more HBg.out hBh)
    clear hBh zA zB zX
    have zA := cellOf' HAh.out
    have zB := cellOf' HBBh.out
    have zX := cellOf' HXh.out
    have zC := cellOf' HCh.out
    have zD := cellOf' HZh.out
    go_wp2
    go_ret
    exact ⟨rfl, HBh.out⟩
set_option maxRecDepth 100000 in
set_option maxHeartbeats 8000000 in
theorem inner_dead (w : World) (u a c : Un) (n m s i j k l : Int) (hn : 0 ≤ n) (hm : 0 ≤ m) (hi : 0 ≤ i ∧ i ≤ 1000000) (hk : 0 ≤ k ∧ k ≤ 1000000) (hl : i + k = l)
    (HRi : Hid (∀ V : World, Calls Try.prog 6 #[uv u] V fun e w' => e = .returned (.bool true) ∧ Below V.heap.size V w'))
    (HHa : Hid (∀ V : World, Calls Try.prog 16 #[uv u, .int .i64 n] V fun e w' => e = .returned (.tuple #[uv a, .int .i64 i]) ∧ Below V.heap.size V w'))
    (HHe : Hid (∀ V : World, Calls Try.prog 17 #[uv a, .int .i64 i] V fun e w' => e = .returned (.tuple #[uv a, .int .i64 j]) ∧ Below V.heap.size V w'))
    (HHc : Hid (∀ V : World, Calls Try.prog 16 #[uv a, .int .i64 m] V fun e w' => e = .returned (.tuple #[uv c, .int .i64 k]) ∧ Below V.heap.size V w'))
    (HAd : Hid (∀ V : World, Calls Try.prog 18 #[.int .i64 n, .int .i64 m] V fun e w' => e = .returned (.int .i64 s) ∧ V = w'))
    (HHd : Hid (∀ V : World, Calls Try.prog 16 #[uv u, .int .i64 s] V fun e w' => e = .returned (.tuple #[uv c, .int .i64 l]) ∧ Below V.heap.size V w'))
    (HDe : Hid (∀ V : World, Calls Try.prog 8 #[uv a] V fun e w' => e = .returned (.bool true) ∧ Below V.heap.size V w')) :
    Calls Try.prog 4 #[uv u, .int .i64 n, .int .i64 m] w fun e w' => e = .returned (.bool true) ∧ Below w.heap.size w w' := by
  obtain ⟨hi0, hi1⟩ := hi
  obtain ⟨hk0, hk1⟩ := hk
  have hn' : decide (n < 0) = false := by simpa using hn
  have hm' : decide (m < 0) = false := by simpa using hm
  subst hl
  have HB0 := Lib.hid (below_box (w := w) u)
  have HX0 := Lib.hid (Bx.new w u)
  go_enter Try.func4, Try.ntmps4
  go_wp2_with (fail)
  generalize w.alloc (oU u) = w0 at *
  (with_reducible refine (small_any _).mono ?_); rintro e w1 ⟨rfl, hB1⟩
  have HX1 := Lib.hid (HX0.out.of hB1 HX0.out.lt)
  have HB1 := Lib.hid (below_more HB0.out hB1)
  clear hB1
  have zX := cellOf' HX1.out
  go_wp2_with (fail)
  clear zX
  (with_reducible refine (HRi.out _).mono ?_); rintro e w2 ⟨rfl, hB2⟩
  have HX2 := Lib.hid (HX1.out.of hB2 HX1.out.lt)
  have HB2 := Lib.hid (below_more HB1.out hB2)
  clear hB2
  have zX := cellOf' HX2.out
  go_wp2_with (fail)
  clear zX
  (with_reducible refine (HHa.out _).mono ?_); rintro e w3 ⟨rfl, hB3⟩
  have HX3 := Lib.hid (HX2.out.of hB3 HX2.out.lt)
  have HB3 := Lib.hid (below_more HB2.out hB3)
  clear hB3
  have HX4 := Lib.hid (HX3.out.alloc (.cells #[.int .i64 a.i, .int .i64 a.k, .int .i64 a.g, .int .i64 a.h, .int .i64 a.m, .int .i64 a.p, .int .i64 a.q, .int .i64 a.x, .int .i64 a.y, .int .i64 a.c] 25))
  have zHX := cellOf' HX3.out
  have lHX := HX3.out.lt
  have HA4 : Hid (Bx (w3.alloc (.cells #[.int .i64 a.i, .int .i64 a.k, .int .i64 a.g, .int .i64 a.h, .int .i64 a.m, .int .i64 a.p, .int .i64 a.q, .int .i64 a.x, .int .i64 a.y, .int .i64 a.c] 25)) w3.heap.size a) := Lib.hid (Bx.new w3 a)
  have HB4 := Lib.hid (HB3.out.alloc HB3.out.size (.cells #[.int .i64 a.i, .int .i64 a.k, .int .i64 a.g, .int .i64 a.h, .int .i64 a.m, .int .i64 a.p, .int .i64 a.q, .int .i64 a.x, .int .i64 a.y, .int .i64 a.c] 25))
  go_wp2_with (fail)
  clear zHX lHX
  generalize w3.alloc (.cells #[.int .i64 a.i, .int .i64 a.k, .int .i64 a.g, .int .i64 a.h, .int .i64 a.m, .int .i64 a.p, .int .i64 a.q, .int .i64 a.x, .int .i64 a.y, .int .i64 a.c] 25) = w4 at *
  (with_reducible refine (HHe.out _).mono ?_); rintro e w5 ⟨rfl, hB5⟩
  have HX5 := Lib.hid (HX4.out.of hB5 HX4.out.lt)
  have HA5 := Lib.hid (HA4.out.of hB5 HA4.out.lt)
  have HB5 := Lib.hid (below_more HB4.out hB5)
  clear hB5
  have HX6 := Lib.hid (HX5.out.alloc (.cells #[.int .i64 a.i, .int .i64 a.k, .int .i64 a.g, .int .i64 a.h, .int .i64 a.m, .int .i64 a.p, .int .i64 a.q, .int .i64 a.x, .int .i64 a.y, .int .i64 a.c] 25))
  have zHX := cellOf' HX5.out
  have lHX := HX5.out.lt
  have HA6 := Lib.hid (HA5.out.alloc (.cells #[.int .i64 a.i, .int .i64 a.k, .int .i64 a.g, .int .i64 a.h, .int .i64 a.m, .int .i64 a.p, .int .i64 a.q, .int .i64 a.x, .int .i64 a.y, .int .i64 a.c] 25))
  have zHA := cellOf' HA5.out
  have lHA := HA5.out.lt
  have HBB6 : Hid (Bx (w5.alloc (.cells #[.int .i64 a.i, .int .i64 a.k, .int .i64 a.g, .int .i64 a.h, .int .i64 a.m, .int .i64 a.p, .int .i64 a.q, .int .i64 a.x, .int .i64 a.y, .int .i64 a.c] 25)) w5.heap.size a) := Lib.hid (Bx.new w5 a)
  have HB6 := Lib.hid (HB5.out.alloc HB5.out.size (.cells #[.int .i64 a.i, .int .i64 a.k, .int .i64 a.g, .int .i64 a.h, .int .i64 a.m, .int .i64 a.p, .int .i64 a.q, .int .i64 a.x, .int .i64 a.y, .int .i64 a.c] 25))
  go_wp2_with (fail)
  clear zHX lHX zHA lHA
  generalize w5.alloc (.cells #[.int .i64 a.i, .int .i64 a.k, .int .i64 a.g, .int .i64 a.h, .int .i64 a.m, .int .i64 a.p, .int .i64 a.q, .int .i64 a.x, .int .i64 a.y, .int .i64 a.c] 25) = w6 at *
  (with_reducible refine (HHc.out _).mono ?_); rintro e w7 ⟨rfl, hB7⟩
  have HX7 := Lib.hid (HX6.out.of hB7 HX6.out.lt)
  have HA7 := Lib.hid (HA6.out.of hB7 HA6.out.lt)
  have HBB7 := Lib.hid (HBB6.out.of hB7 HBB6.out.lt)
  have HB7 := Lib.hid (below_more HB6.out hB7)
  clear hB7
  have HX8 := Lib.hid (HX7.out.alloc (.cells #[.int .i64 c.i, .int .i64 c.k, .int .i64 c.g, .int .i64 c.h, .int .i64 c.m, .int .i64 c.p, .int .i64 c.q, .int .i64 c.x, .int .i64 c.y, .int .i64 c.c] 25))
  have zHX := cellOf' HX7.out
  have lHX := HX7.out.lt
  have HA8 := Lib.hid (HA7.out.alloc (.cells #[.int .i64 c.i, .int .i64 c.k, .int .i64 c.g, .int .i64 c.h, .int .i64 c.m, .int .i64 c.p, .int .i64 c.q, .int .i64 c.x, .int .i64 c.y, .int .i64 c.c] 25))
  have zHA := cellOf' HA7.out
  have lHA := HA7.out.lt
  have HBB8 := Lib.hid (HBB7.out.alloc (.cells #[.int .i64 c.i, .int .i64 c.k, .int .i64 c.g, .int .i64 c.h, .int .i64 c.m, .int .i64 c.p, .int .i64 c.q, .int .i64 c.x, .int .i64 c.y, .int .i64 c.c] 25))
  have zHBB := cellOf' HBB7.out
  have lHBB := HBB7.out.lt
  have HC8 : Hid (Bx (w7.alloc (.cells #[.int .i64 c.i, .int .i64 c.k, .int .i64 c.g, .int .i64 c.h, .int .i64 c.m, .int .i64 c.p, .int .i64 c.q, .int .i64 c.x, .int .i64 c.y, .int .i64 c.c] 25)) w7.heap.size c) := Lib.hid (Bx.new w7 c)
  have HB8 := Lib.hid (HB7.out.alloc HB7.out.size (.cells #[.int .i64 c.i, .int .i64 c.k, .int .i64 c.g, .int .i64 c.h, .int .i64 c.m, .int .i64 c.p, .int .i64 c.q, .int .i64 c.x, .int .i64 c.y, .int .i64 c.c] 25))
  go_wp2_with (fail)
  clear zHX lHX zHA lHA zHBB lHBB
  generalize w7.alloc (.cells #[.int .i64 c.i, .int .i64 c.k, .int .i64 c.g, .int .i64 c.h, .int .i64 c.m, .int .i64 c.p, .int .i64 c.q, .int .i64 c.x, .int .i64 c.y, .int .i64 c.c] 25) = w8 at *
  refine wp_region_noPanic ?_
  refine wp_region_held_drew (S := fun w' => Below w8.heap.size w8 w') (by kernel_rfl) (Below.refl _ _).drew (fun _ => ?_)
  have HC_0 := Lib.hid ((Below.refl w8.heap.size w8).drew)
  generalize w8.drew = v0 at HC_0 ⊢
  refine wpAnyH_take (i := 0) (oi := ⟨some 48, Op.load 25 (Operand.tmp 3), 25, _, _, none⟩) (v := ?vy0) rfl (by kernel_rfl) (by kernel_rfl) (by kernel_rfl) (fun _ _ _ h => h) (Or.inl ⟨by rfl, ?hy0⟩) HC_0.out ?ry0
  case hy0 => (intro wz hSw; have hzz := cellOf' (HX8.out.of hSw HX8.out.lt); go_simp <;> with_reducible rfl)
  (try simp only [Act.put, List.setIfInBounds_toArray, List.set_cons_zero, List.set_cons_succ])
  refine wpAnyH_take (i := 1) (oi := ⟨some 49, Op.move (Operand.tmp 1), 3, _, _, none⟩) (v := ?vy1) rfl (by kernel_rfl) (by kernel_rfl) (by kernel_rfl) (fun _ _ _ h => h) (Or.inl ⟨by rfl, ?hy1⟩) HC_0.out ?ry1
  case hy1 => (intro wz hSw; go_simp <;> with_reducible rfl)
  (try simp only [Act.put, List.setIfInBounds_toArray, List.set_cons_zero, List.set_cons_succ])
  refine wpAnyH_take (i := 2) (oi := ⟨some 50, Op.move (Operand.tmp 2), 3, _, _, none⟩) (v := ?vy2) rfl (by kernel_rfl) (by kernel_rfl) (by kernel_rfl) (fun _ _ _ h => h) (Or.inl ⟨by rfl, ?hy2⟩) HC_0.out ?ry2
  case hy2 => (intro wz hSw; go_simp <;> with_reducible rfl)
  (try simp only [Act.put, List.setIfInBounds_toArray, List.set_cons_zero, List.set_cons_succ])
  refine wpAnyH_ready (rs := [3, 8]) (by kernel_rfl) (by simp) ?_
  refine AllReadyH.cons (o := ⟨some 51, Op.call { callee := Callee.value (Operand.func 18), args := #[Operand.tmp 49, Operand.tmp 50], argTypes := #[3, 3] }, 3, _, _, none⟩) rfl (fun K hK => ?_) (AllReadyH.cons (o := ⟨some 14, Op.alloc 25, 0, _, _, none⟩) rfl (fun K hK => ?_) AllReadyH.nil)
  · go_simp
    (with_reducible refine (HAd.out _).mono ?_); rintro e xa1 ⟨rfl, rfl⟩
    refine hK.out _ _ HC_0.out (fun _ => ?_)
    clear hK K
    (try simp only [Act.put, List.setIfInBounds_toArray, List.set_cons_zero, List.set_cons_succ])
    refine wpAnyH_ready (rs := [4, 8]) (by kernel_rfl) (by simp) ?_
    refine AllReadyH.cons (o := ⟨some 52, Op.call { callee := Callee.value (Operand.func 16), args := #[Operand.tmp 48, Operand.tmp 51], argTypes := #[25, 3] }, 33, _, _, none⟩) rfl (fun K hK => ?_) (AllReadyH.cons (o := ⟨some 14, Op.alloc 25, 0, _, _, none⟩) rfl (fun K hK => ?_) AllReadyH.nil)
    · go_simp
      (with_reducible refine (HHd.out _).mono ?_); rintro e v2 ⟨rfl, hb2⟩; have HC_2 := Lib.hid (below_more HC_0.out hb2); clear hb2
      refine hK.out _ _ HC_2.out (fun _ => ?_)
      clear hK K
      (try simp only [Act.put, List.setIfInBounds_toArray, List.set_cons_zero, List.set_cons_succ])
      refine wpAnyH_take (i := 5) (oi := ⟨some 47, Op.move (Operand.tmp 52), 33, _, _, none⟩) (v := ?vyb3b45) rfl (by kernel_rfl) (by kernel_rfl) (by kernel_rfl) (fun _ _ _ h => h) (Or.inl ⟨by rfl, ?hyb3b45⟩) HC_2.out ?ryb3b45
      case hyb3b45 => (intro wz hSw; go_simp <;> with_reducible rfl)
      (try simp only [Act.put, List.setIfInBounds_toArray, List.set_cons_zero, List.set_cons_succ])
      refine wpAnyH_take (i := 6) (oi := ⟨some 53, Op.extract (Operand.tmp 47) 0, 25, _, _, none⟩) (v := ?vyb3b46) rfl (by kernel_rfl) (by kernel_rfl) (by kernel_rfl) (fun _ _ _ h => h) (Or.inl ⟨by rfl, ?hyb3b46⟩) HC_2.out ?ryb3b46
      case hyb3b46 => (intro wz hSw; go_simp <;> with_reducible rfl)
      (try simp only [Act.put, List.setIfInBounds_toArray, List.set_cons_zero, List.set_cons_succ])
      refine wpAnyH_take (i := 7) (oi := ⟨some 54, Op.extract (Operand.tmp 47) 1, 3, _, _, none⟩) (v := ?vyb3b47) rfl (by kernel_rfl) (by kernel_rfl) (by kernel_rfl) (fun _ _ _ h => h) (Or.inl ⟨by rfl, ?hyb3b47⟩) HC_2.out ?ryb3b47
      case hyb3b47 => (intro wz hSw; go_simp <;> with_reducible rfl)
      (try simp only [Act.put, List.setIfInBounds_toArray, List.set_cons_zero, List.set_cons_succ])
      refine wpAnyH_ready (rs := [8]) (by kernel_rfl) (by simp) ?_
      refine AllReadyH.cons (o := ⟨some 14, Op.alloc 25, 0, _, _, none⟩) rfl (fun K hK => ?_) AllReadyH.nil
      go_simp
      have HD_3 : Hid (Bx (v2.alloc (.cells #[.int .i64 0, .int .i64 0, .int .i64 0, .int .i64 0, .int .i64 0, .int .i64 0, .int .i64 0, .int .i64 0, .int .i64 0, .int .i64 0] 25)) v2.heap.size zU) := Lib.hid (Bx.new v2 zU); have HC_3 := Lib.hid (Below.alloc HC_2.out (Below.size HC_2.out) (.cells #[.int .i64 0, .int .i64 0, .int .i64 0, .int .i64 0, .int .i64 0, .int .i64 0, .int .i64 0, .int .i64 0, .int .i64 0, .int .i64 0] 25)); have HP_3 := Lib.hid (Below.size HC_2.out); generalize hP3 : v2.heap.size = P3 at HD_3 HP_3 ⊢; generalize v2.alloc (.cells #[.int .i64 0, .int .i64 0, .int .i64 0, .int .i64 0, .int .i64 0, .int .i64 0, .int .i64 0, .int .i64 0, .int .i64 0, .int .i64 0] 25) = v3 at HD_3 HC_3 ⊢; clear hP3
      refine hK.out _ _ HC_3.out (fun _ => ?_)
      clear hK K
      (try simp only [Act.put, List.setIfInBounds_toArray, List.set_cons_zero, List.set_cons_succ])
      refine wpAnyH_ready (rs := [9]) (by kernel_rfl) (by simp) ?_
      refine AllReadyH.cons (o := ⟨none, Op.store 25 (Operand.tmp 14) (Operand.tmp 53), 0, _, _, none⟩) rfl (fun K hK => ?_) AllReadyH.nil
      have hyz := cellOf' HD_3.out; have hyl := HD_3.out.lt; have hG := frozOf' HD_3.out
      go_simp
      have HD_4 := Lib.hid (HD_3.out.put c); have HC_4 := Lib.hid (below_put HC_3.out HP_3.out c); clear hyz hyl hG
      refine hK.out _ _ HC_4.out (fun _ => ?_)
      clear hK K
      (try simp only [Act.put, List.setIfInBounds_toArray, List.set_cons_zero, List.set_cons_succ])
      refine wpAnyH_take (i := 10) (oi := ⟨some 15, Op.assign (Operand.tmp 54), 3, _, _, none⟩) (v := ?vyb3b410) rfl (by kernel_rfl) (by kernel_rfl) (by kernel_rfl) (fun _ _ _ h => h) (Or.inl ⟨by rfl, ?hyb3b410⟩) HC_4.out ?ryb3b410
      case hyb3b410 => (intro wz hSw; go_simp <;> with_reducible rfl)
      (try simp only [Act.put, List.setIfInBounds_toArray, List.set_cons_zero, List.set_cons_succ])
      refine wpAnyH_done (by kernel_rfl) ?_ _
      refine NoPanic.normal ?_
      have HZf : Hid (Bx ((((((((((v3.setCell ⟨P3, 0, none⟩ (.int .i64 c.i)).setCell ⟨P3, 1, none⟩ (.int .i64 c.k)).setCell ⟨P3, 2, none⟩ (.int .i64 c.g)).setCell ⟨P3, 3, none⟩ (.int .i64 c.h)).setCell ⟨P3, 4, none⟩ (.int .i64 c.m)).setCell ⟨P3, 5, none⟩ (.int .i64 c.p)).setCell ⟨P3, 6, none⟩ (.int .i64 c.q)).setCell ⟨P3, 7, none⟩ (.int .i64 c.x)).setCell ⟨P3, 8, none⟩ (.int .i64 c.y)).setCell ⟨P3, 9, none⟩ (.int .i64 c.c)) P3 c) := HD_4
      have HSf : Below w8.heap.size w8 ((((((((((v3.setCell ⟨P3, 0, none⟩ (.int .i64 c.i)).setCell ⟨P3, 1, none⟩ (.int .i64 c.k)).setCell ⟨P3, 2, none⟩ (.int .i64 c.g)).setCell ⟨P3, 3, none⟩ (.int .i64 c.h)).setCell ⟨P3, 4, none⟩ (.int .i64 c.m)).setCell ⟨P3, 5, none⟩ (.int .i64 c.p)).setCell ⟨P3, 6, none⟩ (.int .i64 c.q)).setCell ⟨P3, 7, none⟩ (.int .i64 c.x)).setCell ⟨P3, 8, none⟩ (.int .i64 c.y)).setCell ⟨P3, 9, none⟩ (.int .i64 c.c)) := HC_4.out
      have HBf := Lib.hid (below_more HB8.out HSf)
      have HXf := Lib.hid (HX8.out.of HSf HX8.out.lt)
      have HAf := Lib.hid (HA8.out.of HSf HA8.out.lt)
      have HBBf := Lib.hid (HBB8.out.of HSf HBB8.out.lt)
      have HCf := Lib.hid (HC8.out.of HSf HC8.out.lt)
      clear HSf
      generalize ((((((((((v3.setCell ⟨P3, 0, none⟩ (.int .i64 c.i)).setCell ⟨P3, 1, none⟩ (.int .i64 c.k)).setCell ⟨P3, 2, none⟩ (.int .i64 c.g)).setCell ⟨P3, 3, none⟩ (.int .i64 c.h)).setCell ⟨P3, 4, none⟩ (.int .i64 c.m)).setCell ⟨P3, 5, none⟩ (.int .i64 c.p)).setCell ⟨P3, 6, none⟩ (.int .i64 c.q)).setCell ⟨P3, 7, none⟩ (.int .i64 c.x)).setCell ⟨P3, 8, none⟩ (.int .i64 c.y)).setCell ⟨P3, 9, none⟩ (.int .i64 c.c)) = vf at HZf HBf HXf HAf HBBf HCf ⊢
      have zA := cellOf' HAf.out
      have zB := cellOf' HBBf.out
      have zX := cellOf' HXf.out
      go_wp2_with (fail)
      (with_reducible refine (HDe.out _).mono ?_); rintro e vg ⟨rfl, hBg⟩
      have HXg := Lib.hid (HXf.out.of hBg HXf.out.lt)
      have HAg := Lib.hid (HAf.out.of hBg HAf.out.lt)
      have HBBg := Lib.hid (HBBf.out.of hBg HBBf.out.lt)
      have HCg := Lib.hid (HCf.out.of hBg HCf.out.lt)
      have HZg := Lib.hid (HZf.out.of hBg HZf.out.lt)
      have HBg := Lib.hid (below_more HBf.out hBg)
      clear hBg zA zB zX
      have zA := cellOf' HAg.out
      have zB := cellOf' HBBg.out
      have zX := cellOf' HXg.out
      go_wp2_with (fail)
      (with_reducible refine (HDe.out _).mono ?_); rintro e vh ⟨rfl, hBh⟩
      have HXh := Lib.hid (HXg.out.of hBh HXg.out.lt)
      have HAh := Lib.hid (HAg.out.of hBh HAg.out.lt)
      have HBBh := Lib.hid (HBBg.out.of hBh HBBg.out.lt)
      have HCh := Lib.hid (HCg.out.of hBh HCg.out.lt)
      have HZh := Lib.hid (HZg.out.of hBh HZg.out.lt)
      have HBh := Lib.hid (below_more HBg.out hBh)
      clear hBh zA zB zX
      have zA := cellOf' HAh.out
      have zB := cellOf' HBBh.out
      have zX := cellOf' HXh.out
      have zC := cellOf' HCh.out
      have zD := cellOf' HZh.out
      go_wp2
      go_ret
      exact ⟨rfl, HBh.out⟩
    · go_simp
      have HD_6 : Hid (Bx (v0.alloc (.cells #[.int .i64 0, .int .i64 0, .int .i64 0, .int .i64 0, .int .i64 0, .int .i64 0, .int .i64 0, .int .i64 0, .int .i64 0, .int .i64 0] 25)) v0.heap.size zU) := Lib.hid (Bx.new v0 zU); have HC_6 := Lib.hid (Below.alloc HC_0.out (Below.size HC_0.out) (.cells #[.int .i64 0, .int .i64 0, .int .i64 0, .int .i64 0, .int .i64 0, .int .i64 0, .int .i64 0, .int .i64 0, .int .i64 0, .int .i64 0] 25)); have HP_6 := Lib.hid (Below.size HC_0.out); generalize hP6 : v0.heap.size = P6 at HD_6 HP_6 ⊢; generalize v0.alloc (.cells #[.int .i64 0, .int .i64 0, .int .i64 0, .int .i64 0, .int .i64 0, .int .i64 0, .int .i64 0, .int .i64 0, .int .i64 0, .int .i64 0] 25) = v6 at HD_6 HC_6 ⊢; clear hP6
      refine hK.out _ _ HC_6.out (fun _ => ?_)
      clear hK K
      (try simp only [Act.put, List.setIfInBounds_toArray, List.set_cons_zero, List.set_cons_succ])
      refine wpAnyH_ready (rs := [4]) (by kernel_rfl) (by simp) ?_
      refine AllReadyH.cons (o := ⟨some 52, Op.call { callee := Callee.value (Operand.func 16), args := #[Operand.tmp 48, Operand.tmp 51], argTypes := #[25, 3] }, 33, _, _, none⟩) rfl (fun K hK => ?_) AllReadyH.nil
      go_simp
      (with_reducible refine (HHd.out _).mono ?_); rintro e v7 ⟨rfl, hb7⟩; have HC_7 := Lib.hid (below_more HC_6.out hb7); have HD_7 := Lib.hid (HD_6.out.of hb7 HD_6.out.lt); clear hb7
      refine hK.out _ _ HC_7.out (fun _ => ?_)
      clear hK K
      (try simp only [Act.put, List.setIfInBounds_toArray, List.set_cons_zero, List.set_cons_succ])
      refine wpAnyH_take (i := 5) (oi := ⟨some 47, Op.move (Operand.tmp 52), 33, _, _, none⟩) (v := ?vyb3b85) rfl (by kernel_rfl) (by kernel_rfl) (by kernel_rfl) (fun _ _ _ h => h) (Or.inl ⟨by rfl, ?hyb3b85⟩) HC_7.out ?ryb3b85
      case hyb3b85 => (intro wz hSw; go_simp <;> with_reducible rfl)
      (try simp only [Act.put, List.setIfInBounds_toArray, List.set_cons_zero, List.set_cons_succ])
      refine wpAnyH_take (i := 6) (oi := ⟨some 53, Op.extract (Operand.tmp 47) 0, 25, _, _, none⟩) (v := ?vyb3b86) rfl (by kernel_rfl) (by kernel_rfl) (by kernel_rfl) (fun _ _ _ h => h) (Or.inl ⟨by rfl, ?hyb3b86⟩) HC_7.out ?ryb3b86
      case hyb3b86 => (intro wz hSw; go_simp <;> with_reducible rfl)
      (try simp only [Act.put, List.setIfInBounds_toArray, List.set_cons_zero, List.set_cons_succ])
      refine wpAnyH_take (i := 7) (oi := ⟨some 54, Op.extract (Operand.tmp 47) 1, 3, _, _, none⟩) (v := ?vyb3b87) rfl (by kernel_rfl) (by kernel_rfl) (by kernel_rfl) (fun _ _ _ h => h) (Or.inl ⟨by rfl, ?hyb3b87⟩) HC_7.out ?ryb3b87
      case hyb3b87 => (intro wz hSw; go_simp <;> with_reducible rfl)
      (try simp only [Act.put, List.setIfInBounds_toArray, List.set_cons_zero, List.set_cons_succ])
      refine wpAnyH_ready (rs := [9]) (by kernel_rfl) (by simp) ?_
      refine AllReadyH.cons (o := ⟨none, Op.store 25 (Operand.tmp 14) (Operand.tmp 53), 0, _, _, none⟩) rfl (fun K hK => ?_) AllReadyH.nil
      have hyz := cellOf' HD_7.out; have hyl := HD_7.out.lt; have hG := frozOf' HD_7.out
      go_simp
      have HD_8 := Lib.hid (HD_7.out.put c); have HC_8 := Lib.hid (below_put HC_7.out HP_6.out c); clear hyz hyl hG
      refine hK.out _ _ HC_8.out (fun _ => ?_)
      clear hK K
      (try simp only [Act.put, List.setIfInBounds_toArray, List.set_cons_zero, List.set_cons_succ])
      refine wpAnyH_take (i := 10) (oi := ⟨some 15, Op.assign (Operand.tmp 54), 3, _, _, none⟩) (v := ?vyb3b810) rfl (by kernel_rfl) (by kernel_rfl) (by kernel_rfl) (fun _ _ _ h => h) (Or.inl ⟨by rfl, ?hyb3b810⟩) HC_8.out ?ryb3b810
      case hyb3b810 => (intro wz hSw; go_simp <;> with_reducible rfl)
      (try simp only [Act.put, List.setIfInBounds_toArray, List.set_cons_zero, List.set_cons_succ])
      refine wpAnyH_done (by kernel_rfl) ?_ _
      refine NoPanic.normal ?_
      have HZf : Hid (Bx ((((((((((v7.setCell ⟨P6, 0, none⟩ (.int .i64 c.i)).setCell ⟨P6, 1, none⟩ (.int .i64 c.k)).setCell ⟨P6, 2, none⟩ (.int .i64 c.g)).setCell ⟨P6, 3, none⟩ (.int .i64 c.h)).setCell ⟨P6, 4, none⟩ (.int .i64 c.m)).setCell ⟨P6, 5, none⟩ (.int .i64 c.p)).setCell ⟨P6, 6, none⟩ (.int .i64 c.q)).setCell ⟨P6, 7, none⟩ (.int .i64 c.x)).setCell ⟨P6, 8, none⟩ (.int .i64 c.y)).setCell ⟨P6, 9, none⟩ (.int .i64 c.c)) P6 c) := HD_8
      have HSf : Below w8.heap.size w8 ((((((((((v7.setCell ⟨P6, 0, none⟩ (.int .i64 c.i)).setCell ⟨P6, 1, none⟩ (.int .i64 c.k)).setCell ⟨P6, 2, none⟩ (.int .i64 c.g)).setCell ⟨P6, 3, none⟩ (.int .i64 c.h)).setCell ⟨P6, 4, none⟩ (.int .i64 c.m)).setCell ⟨P6, 5, none⟩ (.int .i64 c.p)).setCell ⟨P6, 6, none⟩ (.int .i64 c.q)).setCell ⟨P6, 7, none⟩ (.int .i64 c.x)).setCell ⟨P6, 8, none⟩ (.int .i64 c.y)).setCell ⟨P6, 9, none⟩ (.int .i64 c.c)) := HC_8.out
      have HBf := Lib.hid (below_more HB8.out HSf)
      have HXf := Lib.hid (HX8.out.of HSf HX8.out.lt)
      have HAf := Lib.hid (HA8.out.of HSf HA8.out.lt)
      have HBBf := Lib.hid (HBB8.out.of HSf HBB8.out.lt)
      have HCf := Lib.hid (HC8.out.of HSf HC8.out.lt)
      clear HSf
      generalize ((((((((((v7.setCell ⟨P6, 0, none⟩ (.int .i64 c.i)).setCell ⟨P6, 1, none⟩ (.int .i64 c.k)).setCell ⟨P6, 2, none⟩ (.int .i64 c.g)).setCell ⟨P6, 3, none⟩ (.int .i64 c.h)).setCell ⟨P6, 4, none⟩ (.int .i64 c.m)).setCell ⟨P6, 5, none⟩ (.int .i64 c.p)).setCell ⟨P6, 6, none⟩ (.int .i64 c.q)).setCell ⟨P6, 7, none⟩ (.int .i64 c.x)).setCell ⟨P6, 8, none⟩ (.int .i64 c.y)).setCell ⟨P6, 9, none⟩ (.int .i64 c.c)) = vf at HZf HBf HXf HAf HBBf HCf ⊢
      have zA := cellOf' HAf.out
      have zB := cellOf' HBBf.out
      have zX := cellOf' HXf.out
      go_wp2_with (fail)
      (with_reducible refine (HDe.out _).mono ?_); rintro e vg ⟨rfl, hBg⟩
      have HXg := Lib.hid (HXf.out.of hBg HXf.out.lt)
      have HAg := Lib.hid (HAf.out.of hBg HAf.out.lt)
      have HBBg := Lib.hid (HBBf.out.of hBg HBBf.out.lt)
      have HCg := Lib.hid (HCf.out.of hBg HCf.out.lt)
      have HZg := Lib.hid (HZf.out.of hBg HZf.out.lt)
      have HBg := Lib.hid (below_more HBf.out hBg)
      clear hBg zA zB zX
      have zA := cellOf' HAg.out
      have zB := cellOf' HBBg.out
      have zX := cellOf' HXg.out
      go_wp2_with (fail)
      (with_reducible refine (HDe.out _).mono ?_); rintro e vh ⟨rfl, hBh⟩
      have HXh := Lib.hid (HXg.out.of hBh HXg.out.lt)
      have HAh := Lib.hid (HAg.out.of hBh HAg.out.lt)
      have HBBh := Lib.hid (HBBg.out.of hBh HBBg.out.lt)
      have HCh := Lib.hid (HCg.out.of hBh HCg.out.lt)
      have HZh := Lib.hid (HZg.out.of hBh HZg.out.lt)
      have HBh := Lib.hid (below_more HBg.out hBh)
      clear hBh zA zB zX
      have zA := cellOf' HAh.out
      have zB := cellOf' HBBh.out
      have zX := cellOf' HXh.out
      have zC := cellOf' HCh.out
      have zD := cellOf' HZh.out
      go_wp2
      go_ret
      exact ⟨rfl, HBh.out⟩
  · go_simp
    have HD_10 : Hid (Bx (v0.alloc (.cells #[.int .i64 0, .int .i64 0, .int .i64 0, .int .i64 0, .int .i64 0, .int .i64 0, .int .i64 0, .int .i64 0, .int .i64 0, .int .i64 0] 25)) v0.heap.size zU) := Lib.hid (Bx.new v0 zU); have HC_10 := Lib.hid (Below.alloc HC_0.out (Below.size HC_0.out) (.cells #[.int .i64 0, .int .i64 0, .int .i64 0, .int .i64 0, .int .i64 0, .int .i64 0, .int .i64 0, .int .i64 0, .int .i64 0, .int .i64 0] 25)); have HP_10 := Lib.hid (Below.size HC_0.out); generalize hP10 : v0.heap.size = P10 at HD_10 HP_10 ⊢; generalize v0.alloc (.cells #[.int .i64 0, .int .i64 0, .int .i64 0, .int .i64 0, .int .i64 0, .int .i64 0, .int .i64 0, .int .i64 0, .int .i64 0, .int .i64 0] 25) = v10 at HD_10 HC_10 ⊢; clear hP10
    refine hK.out _ _ HC_10.out (fun _ => ?_)
    clear hK K
    (try simp only [Act.put, List.setIfInBounds_toArray, List.set_cons_zero, List.set_cons_succ])
    refine wpAnyH_ready (rs := [3]) (by kernel_rfl) (by simp) ?_
    refine AllReadyH.cons (o := ⟨some 51, Op.call { callee := Callee.value (Operand.func 18), args := #[Operand.tmp 49, Operand.tmp 50], argTypes := #[3, 3] }, 3, _, _, none⟩) rfl (fun K hK => ?_) AllReadyH.nil
    go_simp
    (with_reducible refine (HAd.out _).mono ?_); rintro e xa11 ⟨rfl, rfl⟩
    refine hK.out _ _ HC_10.out (fun _ => ?_)
    clear hK K
    (try simp only [Act.put, List.setIfInBounds_toArray, List.set_cons_zero, List.set_cons_succ])
    refine wpAnyH_ready (rs := [4]) (by kernel_rfl) (by simp) ?_
    refine AllReadyH.cons (o := ⟨some 52, Op.call { callee := Callee.value (Operand.func 16), args := #[Operand.tmp 48, Operand.tmp 51], argTypes := #[25, 3] }, 33, _, _, none⟩) rfl (fun K hK => ?_) AllReadyH.nil
    go_simp
    (with_reducible refine (HHd.out _).mono ?_); rintro e v12 ⟨rfl, hb12⟩; have HC_12 := Lib.hid (below_more HC_10.out hb12); have HD_12 := Lib.hid (HD_10.out.of hb12 HD_10.out.lt); clear hb12
    refine hK.out _ _ HC_12.out (fun _ => ?_)
    clear hK K
    (try simp only [Act.put, List.setIfInBounds_toArray, List.set_cons_zero, List.set_cons_succ])
    refine wpAnyH_take (i := 5) (oi := ⟨some 47, Op.move (Operand.tmp 52), 33, _, _, none⟩) (v := ?vyb85) rfl (by kernel_rfl) (by kernel_rfl) (by kernel_rfl) (fun _ _ _ h => h) (Or.inl ⟨by rfl, ?hyb85⟩) HC_12.out ?ryb85
    case hyb85 => (intro wz hSw; go_simp <;> with_reducible rfl)
    (try simp only [Act.put, List.setIfInBounds_toArray, List.set_cons_zero, List.set_cons_succ])
    refine wpAnyH_take (i := 6) (oi := ⟨some 53, Op.extract (Operand.tmp 47) 0, 25, _, _, none⟩) (v := ?vyb86) rfl (by kernel_rfl) (by kernel_rfl) (by kernel_rfl) (fun _ _ _ h => h) (Or.inl ⟨by rfl, ?hyb86⟩) HC_12.out ?ryb86
    case hyb86 => (intro wz hSw; go_simp <;> with_reducible rfl)
    (try simp only [Act.put, List.setIfInBounds_toArray, List.set_cons_zero, List.set_cons_succ])
    refine wpAnyH_take (i := 7) (oi := ⟨some 54, Op.extract (Operand.tmp 47) 1, 3, _, _, none⟩) (v := ?vyb87) rfl (by kernel_rfl) (by kernel_rfl) (by kernel_rfl) (fun _ _ _ h => h) (Or.inl ⟨by rfl, ?hyb87⟩) HC_12.out ?ryb87
    case hyb87 => (intro wz hSw; go_simp <;> with_reducible rfl)
    (try simp only [Act.put, List.setIfInBounds_toArray, List.set_cons_zero, List.set_cons_succ])
    refine wpAnyH_ready (rs := [9]) (by kernel_rfl) (by simp) ?_
    refine AllReadyH.cons (o := ⟨none, Op.store 25 (Operand.tmp 14) (Operand.tmp 53), 0, _, _, none⟩) rfl (fun K hK => ?_) AllReadyH.nil
    have hyz := cellOf' HD_12.out; have hyl := HD_12.out.lt; have hG := frozOf' HD_12.out
    go_simp
    have HD_13 := Lib.hid (HD_12.out.put c); have HC_13 := Lib.hid (below_put HC_12.out HP_10.out c); clear hyz hyl hG
    refine hK.out _ _ HC_13.out (fun _ => ?_)
    clear hK K
    (try simp only [Act.put, List.setIfInBounds_toArray, List.set_cons_zero, List.set_cons_succ])
    refine wpAnyH_take (i := 10) (oi := ⟨some 15, Op.assign (Operand.tmp 54), 3, _, _, none⟩) (v := ?vyb810) rfl (by kernel_rfl) (by kernel_rfl) (by kernel_rfl) (fun _ _ _ h => h) (Or.inl ⟨by rfl, ?hyb810⟩) HC_13.out ?ryb810
    case hyb810 => (intro wz hSw; go_simp <;> with_reducible rfl)
    (try simp only [Act.put, List.setIfInBounds_toArray, List.set_cons_zero, List.set_cons_succ])
    refine wpAnyH_done (by kernel_rfl) ?_ _
    refine NoPanic.normal ?_
    have HZf : Hid (Bx ((((((((((v12.setCell ⟨P10, 0, none⟩ (.int .i64 c.i)).setCell ⟨P10, 1, none⟩ (.int .i64 c.k)).setCell ⟨P10, 2, none⟩ (.int .i64 c.g)).setCell ⟨P10, 3, none⟩ (.int .i64 c.h)).setCell ⟨P10, 4, none⟩ (.int .i64 c.m)).setCell ⟨P10, 5, none⟩ (.int .i64 c.p)).setCell ⟨P10, 6, none⟩ (.int .i64 c.q)).setCell ⟨P10, 7, none⟩ (.int .i64 c.x)).setCell ⟨P10, 8, none⟩ (.int .i64 c.y)).setCell ⟨P10, 9, none⟩ (.int .i64 c.c)) P10 c) := HD_13
    have HSf : Below w8.heap.size w8 ((((((((((v12.setCell ⟨P10, 0, none⟩ (.int .i64 c.i)).setCell ⟨P10, 1, none⟩ (.int .i64 c.k)).setCell ⟨P10, 2, none⟩ (.int .i64 c.g)).setCell ⟨P10, 3, none⟩ (.int .i64 c.h)).setCell ⟨P10, 4, none⟩ (.int .i64 c.m)).setCell ⟨P10, 5, none⟩ (.int .i64 c.p)).setCell ⟨P10, 6, none⟩ (.int .i64 c.q)).setCell ⟨P10, 7, none⟩ (.int .i64 c.x)).setCell ⟨P10, 8, none⟩ (.int .i64 c.y)).setCell ⟨P10, 9, none⟩ (.int .i64 c.c)) := HC_13.out
    have HBf := Lib.hid (below_more HB8.out HSf)
    have HXf := Lib.hid (HX8.out.of HSf HX8.out.lt)
    have HAf := Lib.hid (HA8.out.of HSf HA8.out.lt)
    have HBBf := Lib.hid (HBB8.out.of HSf HBB8.out.lt)
    have HCf := Lib.hid (HC8.out.of HSf HC8.out.lt)
    clear HSf
    generalize ((((((((((v12.setCell ⟨P10, 0, none⟩ (.int .i64 c.i)).setCell ⟨P10, 1, none⟩ (.int .i64 c.k)).setCell ⟨P10, 2, none⟩ (.int .i64 c.g)).setCell ⟨P10, 3, none⟩ (.int .i64 c.h)).setCell ⟨P10, 4, none⟩ (.int .i64 c.m)).setCell ⟨P10, 5, none⟩ (.int .i64 c.p)).setCell ⟨P10, 6, none⟩ (.int .i64 c.q)).setCell ⟨P10, 7, none⟩ (.int .i64 c.x)).setCell ⟨P10, 8, none⟩ (.int .i64 c.y)).setCell ⟨P10, 9, none⟩ (.int .i64 c.c)) = vf at HZf HBf HXf HAf HBBf HCf ⊢
    have zA := cellOf' HAf.out
    have zB := cellOf' HBBf.out
    have zX := cellOf' HXf.out
    go_wp2_with (fail)
    (with_reducible refine (HDe.out _).mono ?_); rintro e vg ⟨rfl, hBg⟩
    have HXg := Lib.hid (HXf.out.of hBg HXf.out.lt)
    have HAg := Lib.hid (HAf.out.of hBg HAf.out.lt)
    have HBBg := Lib.hid (HBBf.out.of hBg HBBf.out.lt)
    have HCg := Lib.hid (HCf.out.of hBg HCf.out.lt)
    have HZg := Lib.hid (HZf.out.of hBg HZf.out.lt)
    have HBg := Lib.hid (below_more HBf.out hBg)
    clear hBg zA zB zX
    have zA := cellOf' HAg.out
    have zB := cellOf' HBBg.out
    have zX := cellOf' HXg.out
    go_wp2_with (fail)
    (with_reducible refine (HDe.out _).mono ?_); rintro e vh ⟨rfl, hBh⟩
    have HXh := Lib.hid (HXg.out.of hBh HXg.out.lt)
    have HAh := Lib.hid (HAg.out.of hBh HAg.out.lt)
    have HBBh := Lib.hid (HBBg.out.of hBh HBBg.out.lt)
    have HCh := Lib.hid (HCg.out.of hBh HCg.out.lt)
    have HZh := Lib.hid (HZg.out.of hBh HZg.out.lt)
    have HBh := Lib.hid (below_more HBg.out hBh)
    clear hBh zA zB zX
    have zA := cellOf' HAh.out
    have zB := cellOf' HBBh.out
    have zX := cellOf' HXh.out
    have zC := cellOf' HCh.out
    have zD := cellOf' HZh.out
    go_wp2
    go_ret
    exact ⟨rfl, HBh.out⟩
theorem walk (w : World) (u : Un) (hu : FU u) (n : Int) (hn : Fits n) (m : Int) (hm : Fits m) :
    Calls Try.prog 4 #[uv u, .int .i64 n, .int .i64 m] w fun e w' => e = .returned (.bool true) ∧ Below w.heap.size w w' := by
  cases hr : rtU u with
  | false => exact wrong w u n m hr
  | true =>
    by_cases h0 : n < 0
    · exact low_n w u n m hr h0
    · by_cases h1 : m < 0
      · exact low_m w u n m hr (by omega) h1
      · have g0 : 0 ≤ n := by omega
        have g1 : 0 ≤ m := by omega
        have hra := rt_hurt n hr
        obtain ⟨q1, q2⟩ := add_hurts hr g0 g1
        cases hd : decide ((hurtU u n).h < 1) with
        | false =>
          obtain ⟨b1, b2⟩ := back_live hr g0 hd
          exact inner_live w u (hurtU u n) (hurtU (hurtU u n) m) n m (held (n + m)) (hurtN u n) 0 (hurtN (hurtU u n) m) _ g0 g1 (hurt_in hr g0) (hurt_in hra g1) q2
            (Lib.hid fun V => hr ▸ right_any u V) (Lib.hid fun V => hurt_any u n V) (Lib.hid fun V => by have := heal_any (hurtU u n) (hurtN u n) V; rw [b1, b2] at this; exact this) (Lib.hid fun V => hurt_any _ m V)
            (Lib.hid fun V => add_any n m V hn hm) (Lib.hid fun V => q1 ▸ hurt_any u _ V) (Lib.hid fun V => hd ▸ dead_any _ V)
        | true =>
          exact inner_dead w u (hurtU u n) (hurtU (hurtU u n) m) n m (held (n + m)) (hurtN u n) (healN (hurtU u n) (hurtN u n)) (hurtN (hurtU u n) m) _ g0 g1 (hurt_in hr g0) (hurt_in hra g1) q2
            (Lib.hid fun V => hr ▸ right_any u V) (Lib.hid fun V => hurt_any u n V) (Lib.hid fun V => by have := heal_any (hurtU u n) (hurtN u n) V; rw [back_dead hd] at this; exact this) (Lib.hid fun V => hurt_any _ m V)
            (Lib.hid fun V => add_any n m V hn hm) (Lib.hid fun V => q1 ▸ hurt_any u _ V) (Lib.hid fun V => hd ▸ dead_any _ V)


set_option maxRecDepth 100000 in
theorem lifted (os : Os) (started : os.Started) (H : Type) (enc : TypeId × Value → H) :
    ReturnsInHanded {} Try.checked os 4 .any (Rows.bodyPartsSpec.pre6 enc Try.prog Try.f4 Rows.bodyPartsRow.domain false) (Rows.bodyPartsSpec.post enc Try.prog Try.f4 false true false false) := by
  refine returnsInHanded_of_change (C := Try.checked) own started (by kernel_rfl) Try.func4
    (ChangeSpec.witness6 (enc := enc) (C := Try.checked) false ⟨#[], #[.agg #[.int .i64 0, .int .i64 0, .int .i64 0, .int .i64 0, .int .i64 0, .int .i64 0, .int .i64 0, .int .i64 0, .int .i64 0, .int .i64 0], .int .i64 0, .int .i64 0], []⟩ 8 (by kernel_rfl) (by kernel_rfl) (by kernel_rfl) (by kernel_rfl)) ?_
  intro W base args ds gs before hval0 hW hcnd _
  have hval : ∀ (j : Nat) t v, Try.f4.params[j]? = some t → args[j]? = some v → Value.okWide Try.prog W .any base t v := hval0
  have hW' := hW
  obtain ⟨p, q, hA0, hV, rfl, hfz, hnd⟩ := hW
  have hA : DataW.TrodAll enc Try.prog W 0 (fun _ => true) true Try.f4.params.toList args.toList ds p := hA0
  rw [Try.params4] at hA hval
  obtain ⟨v0, vs0, d0, ds0, p0, q0, hargs, rfl, rfl, h0, r0⟩ := trodAll_cons hA
  obtain ⟨v1, vs1, d1, ds1, p1, q1, rfl, rfl, rfl, h1, r1⟩ := trodAll_cons r0
  obtain ⟨v2, vs2, d2, ds2, p2, q2, rfl, rfl, rfl, h2, r2⟩ := trodAll_cons r1
  obtain ⟨rfl, rfl, rfl⟩ := trodAll_nil r2
  obtain rfl : args = #[v0, v1, v2] := by cases args; simp_all
  obtain ⟨rfl, rfl⟩ := trodVars_none hV
  clear hA0 hval0
  have hlt0 : ∀ x ∈ p0, x.block < W.heap.size := fun x hx => hW'.lt x (by simp [hx])
  have hk0 := h0
  obtain ⟨u0, rfl, hf0⟩ := Bop.viewU (hval 0 25 v0 rfl rfl) h0
  obtain ⟨a1, rfl, rfl, rfl, w1⟩ := open_int Try.underlying3 (hval 1 3 v1 rfl rfl) h1
  obtain ⟨a2, rfl, rfl, rfl, w2⟩ := open_int Try.underlying3 (hval 2 3 v2 rfl rfl) h2
  simp only [List.append_nil] at hW'
  refine (walk W u0 hf0 a1 (Bop.fits_of w1) a2 (Bop.fits_of w2)).mono fun e W' ⟨he, hg⟩ => ?_
  subst he
  exact ⟨_, rfl, _, _, _, [], _, [], hW', (trodAll_cons_mk (shut_bool Try.underlying4 _) trodAll_mk0), (trodAll_cons_mk (Below.trod Bop.laidOut (by kernel_rfl) (of_decide_eq_true (by kernel_rfl)) hk0 hg hlt0) (trodAll_cons_mk (shut_int Try.underlying3 w1) (trodAll_cons_mk (shut_int Try.underlying3 w2) trodAll_mk0))), rfl, hg.frame _, fun h => by cases h⟩

theorem over : Rows.bodyPartsRow.holds Try.pinned (OpenSpec.ofChange Rows.bodyPartsSpec) :=
  OpenClaim.holds_of_wide 4 Try.f4 rfl rfl rfl rfl rfl rfl rfl ⟨rfl, rfl, rfl, rfl, rfl⟩ rfl rfl rfl rfl rfl (by kernel_rfl) Try.func4 (by kernel_rfl)
    (of_decide_eq_true (by kernel_rfl)) (by unfold Func.isWrapper; first | (rw [if_pos (by decide +kernel)]; kernel_rfl) | (rw [if_neg (by decide +kernel)]; exact ⟨rfl, rfl⟩))
    (fun os started H enc _ => lifted os started H enc)

/-- The given statement. -/
theorem proved : Rows.BodyPartsSaid :=
  over
#print axioms proved
end Go.Proofs.Ytegpbdffddpmhaa.bodyParts
