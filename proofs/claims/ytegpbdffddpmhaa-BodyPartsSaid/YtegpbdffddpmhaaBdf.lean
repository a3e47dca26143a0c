/-
  Contracts of body's and of the document's Below, Fields and From: for every unit and every nine numbers; only new memory is made.
-/
import Derived.Test.YtegpbdffddpmhaaBdu
import Derived.BigQuiet
import Derived.Handy
import Derived.ChangeKeysEq
namespace Go.Proofs.Ytegpbdffddpmhaa.Con
open Go.RowKit
set_option linter.unusedVariables false
/-- The nine fields behind a unit's Id. -/
abbrev fv (u : Un) : Value := .agg #[.int .i64 u.k, .int .i64 u.g, .int .i64 u.h, .int .i64 u.m, .int .i64 u.p, .int .i64 u.q, .int .i64 u.x, .int .i64 u.y, .int .i64 u.c]
abbrev oF (u : Un) : Obj := .cells #[.int .i64 u.k, .int .i64 u.g, .int .i64 u.h, .int .i64 u.m, .int .i64 u.p, .int .i64 u.q, .int .i64 u.x, .int .i64 u.y, .int .i64 u.c] 26
theorem below_fld {w : World} (u : Un) : Below w.heap.size w (w.alloc (oF u)) := (Below.refl _ _).alloc (Nat.le_refl _) _
theorem cells_fld {w : World} {b : Nat} {u : Un} (h : w.heap[b]? = some (oF u)) : w.cell? ⟨b, 0, none⟩ = some (.int .i64 u.k) ∧ w.cell? ⟨b, 1, none⟩ = some (.int .i64 u.g) ∧ w.cell? ⟨b, 2, none⟩ = some (.int .i64 u.h) ∧ w.cell? ⟨b, 3, none⟩ = some (.int .i64 u.m) ∧ w.cell? ⟨b, 4, none⟩ = some (.int .i64 u.p) ∧ w.cell? ⟨b, 5, none⟩ = some (.int .i64 u.q) ∧ w.cell? ⟨b, 6, none⟩ = some (.int .i64 u.x) ∧ w.cell? ⟨b, 7, none⟩ = some (.int .i64 u.y) ∧ w.cell? ⟨b, 8, none⟩ = some (.int .i64 u.c) :=
  ⟨cellOf' h 0, cellOf' h 1, cellOf' h 2, cellOf' h 3, cellOf' h 4, cellOf' h 5, cellOf' h 6, cellOf' h 7, cellOf' h 8⟩
theorem eql_fld (u : Un) (w : World) : (binOp .eql 26 (fv u) (fv u)).run Try.prog w = .ok (.bool true) w := by
  obtain ⟨i, hi⟩ := Option.isSome_iff_exists.1 (show (Try.prog.info? 3).isSome = true by kernel_rfl)
  have hc : Try.prog.cellsOf 3 = 1 := by kernel_rfl
  rw [run_eql_struct, run_equalIn_array w 9999 _ _ Try.underlying26 hi, hc, show List.range 9 = [0, 1, 2, 3, 4, 5, 6, 7, 8] from rfl]
  simp [go_sem, Op.eqItems]
set_option maxRecDepth 20000 in
set_option maxHeartbeats 1000000 in
theorem below_any (u : Un) (n : Int) (w : World) : Calls Try.prog 10 #[uv u, .int .i64 n] w fun e w' => e = .returned (.bool (decide (u.h ≤ partI u.m n 100))) ∧ Below w.heap.size w w' := by
  have HB0 := Lib.hid (below_box (w := w) u)
  obtain ⟨z0, z1, z2, z3, z4, z5, z6, z7, z8, z9⟩ := (Bx.new w u).at
  have HP := Lib.hid (fun V => part_any u.m n 100 V ⟨by omega, by omega⟩)
  generalize partI u.m n 100 = r at HP ⊢
  go_enter Try.func10, Try.ntmps10
  go_wp2_with (fail)
  go_quiet ((go_at_call 23; exact Calls.quiet_of_same ((HP.out _).mono fun _ _ h => ⟨h.1, h.2.symm⟩)))
  go_wp2
  go_ret
  exact ⟨rfl, below_drewN HB0.out _⟩
set_option maxRecDepth 20000 in
set_option maxHeartbeats 1000000 in
theorem rbelow_any (u : Un) (n : Int) (w : World) : Calls Try.prog 11 #[uv u, .int .i64 n] w fun e w' => e = .returned (.bool (decide (u.h ≤ partI u.m n 100))) ∧ Below w.heap.size w w' := by
  have HB0 := Lib.hid (below_box (w := w) u)
  obtain ⟨z0, z1, z2, z3, z4, z5, z6, z7, z8, z9⟩ := (Bx.new w u).at
  have HP := Lib.hid (fun V => rpart_any u.m n 100 V ⟨by omega, by omega⟩)
  generalize partI u.m n 100 = r at HP ⊢
  go_enter Try.func11, Try.ntmps11
  go_wp2_with (fail)
  go_quiet ((go_at_call 24; exact Calls.quiet_of_same ((HP.out _).mono fun _ _ h => ⟨h.1, h.2.symm⟩)))
  go_wp2
  go_ret
  exact ⟨rfl, below_drewN HB0.out _⟩
set_option maxRecDepth 20000 in
set_option maxHeartbeats 2000000 in
theorem fields_any (u : Un) (w : World) : Calls Try.prog 12 #[uv u] w fun e w' => e = .returned (fv u) ∧ Below w.heap.size w w' := by
  go_enter Try.func12, Try.ntmps12
  go_wp2
  refine bodyPost_ret (by simp [results, Try.results12, go_sem]; try rfl) rfl ?_
  exact ⟨rfl, by go_grown⟩
set_option maxRecDepth 20000 in
set_option maxHeartbeats 2000000 in
theorem rfields_any (u : Un) (w : World) : Calls Try.prog 13 #[uv u] w fun e w' => e = .returned (fv u) ∧ Below w.heap.size w w' := by
  go_enter Try.func13, Try.ntmps13
  go_wp2
  refine bodyPost_ret (by simp [results, Try.results13, go_sem]; try rfl) rfl ?_
  exact ⟨rfl, by go_grown⟩
set_option maxRecDepth 20000 in
set_option maxHeartbeats 2000000 in
theorem from_any (d : Int) (u : Un) (w : World) : Calls Try.prog 14 #[.int .i64 d, fv u] w fun e w' => e = .returned (uv { u with i := d }) ∧ Below w.heap.size w w' := by
  go_enter Try.func14, Try.ntmps14
  go_wp2
  refine bodyPost_ret (by simp [results, Try.results14, go_sem]; try rfl) rfl ?_
  exact ⟨rfl, by go_grown⟩
set_option maxRecDepth 20000 in
set_option maxHeartbeats 2000000 in
theorem rfrom_any (d : Int) (u : Un) (w : World) : Calls Try.prog 15 #[.int .i64 d, fv u] w fun e w' => e = .returned (uv { u with i := d }) ∧ Below w.heap.size w w' := by
  go_enter Try.func15, Try.ntmps15
  go_wp2
  refine bodyPost_ret (by simp [results, Try.results15, go_sem]; try rfl) rfl ?_
  exact ⟨rfl, by go_grown⟩
end Go.Proofs.Ytegpbdffddpmhaa.Con
