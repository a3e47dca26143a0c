/-
  The law CommandBack: right commands and their loads are each other's, a load with a byte 0 behind it is none, and what bytes say is written as those bytes, for all commands and bytes of at most 2048 bytes together; no condition beyond the types'.
-/
import Derived.Test.YteiknfhoggoapaaSma
import Derived.Test.YteiknfhoggoapaaCop
import Derived.WalkKit
import Derived.ProofKit
import Derived.OpenShut
namespace Go.Proofs.Yteiknfhoggoapaa.commandBack
open Go.ChangeShapes Go.WideShapes Go.ChangeAt Go.RowKit Con Pm Mth
set_option linter.unusedVariables false

theorem own : ownKnob Try.prog.godebug = none := by kernel_rfl

theorem size_str (t : List Int) : (strOfNums t).size = t.length := strOfNums_size t
theorem own_cap {w : World} {base : Nat} {K : IntKind} {e : TypeId} {A : Option Addr} {c : Nat} {l : List Int} (h : Own w base K e A c l) : l.length ≤ c := by
  rcases h.2 with ⟨hv, h0⟩ | ⟨g, cap, cur, hv, _, _, hn, _⟩
  · injection hv with _ h1 h2; omega
  · injection hv with _ h1 h2; omega
theorem below_refl_alloc (w : World) (o : Obj) : Below w.heap.size w (w.alloc o) := (Below.refl _ w).alloc (Nat.le_refl _) o
theorem bx_second (w : World) (c d : Cm) : Bx ((w.alloc (oC c)).alloc (oC d)) (w.heap.size + 1) d := by
  have h := heap_alloc_new (w.alloc (oC c)) (oC d)
  rw [show (w.alloc (oC c)).heap.size = w.heap.size + 1 by simp] at h
  exact h
theorem exec_eql {a : Act} {o : Oper} {T T2 : TypeId} {l r : Operand} (ho : o.op = .binOp .eql T l r T2) {x y : Value} (hx : a.eval l = x) (hy : a.eval r = y) {w : World} {b : Bool} (hg : (eqGuard .eql T l r x y).run Try.prog w = .ok () w) (h : (binOp .eql T x y).run Try.prog w = .ok (.bool b) w) :
    Sem.run Try.prog (execOp a.eval o) w = .ok (.value (.bool b)) w := by
  simp [execOp, ho, hx, hy, hg, h]

set_option maxRecDepth 100000 in
set_option maxHeartbeats 8000000 in
theorem wayF (w : World) (d a b : Int) (t : List Int) (d' a' b' : Int) (t' : List Int) (hf : FC (⟨d, t, a, b⟩ : Cm)) (hf' : FC (⟨d', t', a', b'⟩ : Cm)) (A : Option Addr) (c : Nat) (l : List Int) (hrd : Rd .u8 w w.heap.size A l) (hc : l.length ≤ c) (hx : Byt l) (h : (t.length : Int) + t'.length + l.length ≤ 2048) (hr : rtB (⟨d, t, a, b⟩ : Cm) = false) :
    Calls Try.prog 5 #[.agg #[.int .i64 d, .string (strOfNums t), .int .i64 a, .int .i64 b], .agg #[.int .i64 d', .string (strOfNums t'), .int .i64 a', .int .i64 b'], .slice A l.length c] w fun e w' => e = .returned (.bool true) ∧ Below w.heap.size w w' := by
  have HEn : Hid (∀ V, Calls Try.prog 7 #[.agg #[.int .i64 d, .string (strOfNums t), .int .i64 a, .int .i64 b]] V (EA V (⟨d, t, a, b⟩ : Cm))) := Lib.hid (fun V => encode_any _ hf (by show ((t.length : Nat) : Int) ≤ 100000; omega) V)
  have HEd : Hid (∀ V, Calls Try.prog 7 #[.agg #[.int .i64 d', .string (strOfNums t'), .int .i64 a', .int .i64 b']] V (EA V (⟨d', t', a', b'⟩ : Cm))) := Lib.hid (fun V => encode_any _ hf' (by show ((t'.length : Nat) : Int) ≤ 100000; omega) V)
  have HRi : Hid (∀ V : World, Calls Try.prog 9 #[.agg #[.int .i64 d, .string (strOfNums t), .int .i64 a, .int .i64 b]] V fun e w' => e = .returned (.bool false) ∧ Below V.heap.size V w') := Lib.hid (fun V => by rw [← hr]; exact right_any _ hf (by show ((t.length : Nat) : Int) ≤ 10000000; omega) V)
  have HE1 : Hid (enE (⟨d, t, a, b⟩ : Cm) = 1) := Lib.hid (by simp [enE, hr])

  have HF1 := Lib.hid hf; have HF2 := Lib.hid hf'
  have HR := Lib.hid hrd; have HC := Lib.hid hc; have HBy := Lib.hid hx
  have n1 := size_str t
  have n2 := size_str t'
  have hn : decide ((2048 : Int) < (t.length : Int) + t'.length + l.length) = false := by simpa using h
  have HB0 : Hid (Below w.heap.size w ((w.alloc (oC (⟨d, t, a, b⟩ : Cm))).alloc (oC (⟨d', t', a', b'⟩ : Cm)))) := Lib.hid (by go_grown)
  have HX0 : Hid (Bx ((w.alloc (oC (⟨d, t, a, b⟩ : Cm))).alloc (oC (⟨d', t', a', b'⟩ : Cm))) w.heap.size (⟨d, t, a, b⟩ : Cm)) := Lib.hid (Bx.alloc (heap_alloc_new w _) _)
  have HY0 : Hid (Bx ((w.alloc (oC (⟨d, t, a, b⟩ : Cm))).alloc (oC (⟨d', t', a', b'⟩ : Cm))) (w.heap.size + 1) (⟨d', t', a', b'⟩ : Cm)) := Lib.hid (bx_second w (⟨d, t, a, b⟩ : Cm) (⟨d', t', a', b'⟩ : Cm))
  clear hf hf' hrd hc hx hr
  go_enter Try.func5, Try.ntmps5
  go_wp2_with (fail)
  generalize (w.alloc (oC (⟨d, t, a, b⟩ : Cm))).alloc (oC (⟨d', t', a', b'⟩ : Cm)) = w0 at *
  generalize hR : w.heap.size + 1 = R at *
  have HRn := Lib.hid hR; clear hR
  have hq0 : w.heap.size < w0.heap.size := lt_of_block HX0.out
  have hp0 : R < w0.heap.size := lt_of_block HY0.out
  (with_reducible refine (small_any w0).mono ?_); rintro e w1 ⟨rfl, hB1⟩
  have HX1 := Lib.hid (HX0.out.of hB1 hq0)
  have HY1 := Lib.hid (HY0.out.of hB1 hp0)
  have HV1 : Hid (Below w.heap.size w w1) := Lib.hid (HB0.out.trans (hB1.mono (Nat.le_of_lt hq0)))
  have hq1 : w.heap.size < w1.heap.size := lt_of_block HX1.out
  have hp1 : R < w1.heap.size := lt_of_block HY1.out
  clear hB1 hq0 hp0 HX0 HY0 HB0
  obtain ⟨z0, z1, z2, z3⟩ := HX1.out.at
  obtain ⟨y0, y1, y2, y3⟩ := HY1.out.at
  simp only at z0 z1 z2 z3 y0 y1 y2 y3
  go_wp2_with (fail)
  (with_reducible refine (HEn.out _).mono ?_); rintro e w2 ⟨l1, A1, k1, HL1, rfl, HO1, HB2⟩
  rw [HE1.out]
  have HX2 := Lib.hid (HX1.out.of HB2.out hq1)
  have HY2 := Lib.hid (HY1.out.of HB2.out hp1)
  have HV2 : Hid (Below w.heap.size w w2) := Lib.hid (HV1.out.trans (HB2.out.mono (Nat.le_of_lt hq1)))
  have hq2 : w.heap.size < w2.heap.size := lt_of_block HX2.out
  have hp2 : R < w2.heap.size := lt_of_block HY2.out
  clear z0 z1 z2 z3 y0 y1 y2 y3 HX1 HY1 hq1 hp1
  obtain ⟨z0, z1, z2, z3⟩ := HX2.out.at
  obtain ⟨y0, y1, y2, y3⟩ := HY2.out.at
  simp only at z0 z1 z2 z3 y0 y1 y2 y3
  go_wp2_with (fail)
  (with_reducible refine (HEd.out _).mono ?_); rintro e w3 ⟨l2, A2, k2, HL2, rfl, HO2, HB3⟩
  generalize enE (⟨d', t', a', b'⟩ : Cm) = er2
  have HX3 := Lib.hid (HX2.out.of HB3.out hq2)
  have HY3 := Lib.hid (HY2.out.of HB3.out hp2)
  have HV3 : Hid (Below w.heap.size w w3) := Lib.hid (HV2.out.trans (HB3.out.mono (Nat.le_of_lt hq2)))
  clear z0 z1 z2 z3 y0 y1 y2 y3 HX2 HY2 hq2 hp2
  go_wp2_with (fail)
  have HX4 : Hid (Bx w3.drew w.heap.size (⟨d, t, a, b⟩ : Cm)) := HX3
  have HY4 : Hid (Bx w3.drew R (⟨d', t', a', b'⟩ : Cm)) := HY3
  replace HO1 : Hid (Own w3.drew w1.heap.size .u8 5 A1 k1 l1) := Lib.hid (HO1.out.below HB3.out.drew (Nat.le_refl _))
  replace HO2 : Hid (Own w3.drew w2.heap.size .u8 5 A2 k2 l2) := HO2
  have HV4 := Lib.hid HV3.out.drew
  refine wp_region_noPanic ?_
  refine wp_region_held_drew (S := fun w' => Below w3.drew.heap.size w3.drew w') (by kernel_rfl) (Below.refl _ _) (fun _ => ?_)
  clear HX3 HY3 HV3 HV2 HB2 HB3 HV1
  generalize w3.drew = w4 at HX4 HY4 HO1 HO2 HV4 ⊢
  have HQ4 : Hid (w.heap.size < w4.heap.size) := Lib.hid (lt_of_block HX4.out)
  have HP4 : Hid (R < w4.heap.size) := Lib.hid (lt_of_block HY4.out)

  refine wpAnyH_take (i := 0) (oi := ⟨some 43, Op.move (Operand.tmp 9), 26, _, _, none⟩) (v := ?vy0) rfl (by kernel_rfl) (by kernel_rfl) (by kernel_rfl) (fun _ _ _ h => h) (Or.inl ⟨by rfl, ?hy0⟩) (Below.refl _ _) ?ry0
  case hy0 => (intro wz hSw; go_simp <;> with_reducible rfl)
  (try simp only [Act.put, List.setIfInBounds_toArray, List.set_cons_zero, List.set_cons_succ])
  refine wpAnyH_take (i := 1) (oi := ⟨some 44, Op.binOp BinOp.eql 26 (Operand.tmp 43) (Operand.const (Value.int IntKind.i64 0)) 26, 4, _, _, none⟩) (v := ?vy1) rfl (by kernel_rfl) (by kernel_rfl) (by kernel_rfl) (fun _ _ _ h => h) (Or.inl ⟨by rfl, ?hy1⟩) (Below.refl _ _) ?ry1
  case hy1 => (intro wz hSw; go_simp <;> with_reducible rfl)
  (try simp only [Act.put, List.setIfInBounds_toArray, List.set_cons_zero, List.set_cons_succ])
  refine wpAnyH_take (i := 2) (oi := ⟨some 45, Op.load 23 (Operand.tmp 3), 23, _, _, none⟩) (v := ?vy2) rfl (by kernel_rfl) (by kernel_rfl) (by kernel_rfl) (fun _ _ _ h => h) (Or.inl ⟨by rfl, ?hy2⟩) (Below.refl _ _) ?ry2
  case hy2 => (intro wz hSw; have hc := (HX4.out.of hSw HQ4.out).at; obtain ⟨c0, c1, c2, c3⟩ := hc; simp only at c0 c1 c2 c3; go_simp <;> with_reducible rfl)
  (try simp only [Act.put, List.setIfInBounds_toArray, List.set_cons_zero, List.set_cons_succ])
  refine wpAnyH_ready (rs := [3]) (by kernel_rfl) (by simp) ?_
  refine AllReadyH.cons (o := ⟨some 46, Op.call { callee := Callee.value (Operand.func 9), args := #[Operand.tmp 45], argTypes := #[23] }, 4, _, _, none⟩) rfl (fun K hK => ?_) AllReadyH.nil
  go_simp
  (with_reducible refine (HRi.out _).mono ?_); rintro e w5 ⟨rfl, hB5⟩; have HC5 := Lib.hid hB5; clear hB5
  refine hK.out _ _ HC5.out (fun _ => ?_)
  clear hK K
  (try simp only [Act.put, List.setIfInBounds_toArray, List.set_cons_zero, List.set_cons_succ])
  refine wpAnyH_take (i := 4) (oi := ⟨some 47, Op.binOp BinOp.neq 4 (Operand.tmp 44) (Operand.tmp 46) 4, 4, _, _, none⟩) (v := ?vy4) rfl (by kernel_rfl) (by kernel_rfl) (by kernel_rfl) (fun _ _ _ h => h) (Or.inl ⟨by rfl, ?hy4⟩) HC5.out ?ry4
  case hy4 => (intro wz hSw; go_simp <;> with_reducible rfl)
  (try simp only [Act.put, List.setIfInBounds_toArray, List.set_cons_zero, List.set_cons_succ])
  refine wpAnyH_take (i := 5) (oi := ⟨some 48, Op.move (Operand.tmp 47), 4, _, _, none⟩) (v := ?vy5) rfl (by kernel_rfl) (by kernel_rfl) (by kernel_rfl) (fun _ _ _ h => h) (Or.inl ⟨by rfl, ?hy5⟩) HC5.out ?ry5
  case hy5 => (intro wz hSw; go_simp <;> with_reducible rfl)
  (try simp only [Act.put, List.setIfInBounds_toArray, List.set_cons_zero, List.set_cons_succ])
  refine wpAnyH_take (i := 6) (oi := ⟨some 49, Op.move (Operand.tmp 9), 26, _, _, some (5, false)⟩) (v := ?vy6) rfl (by kernel_rfl) (by kernel_rfl) (by kernel_rfl) (fun _ _ _ h => h) (Or.inl ⟨by rfl, ?hy6⟩) HC5.out ?ry6
  case hy6 => (intro wz hSw; go_simp <;> with_reducible rfl)
  (try simp only [Act.put, List.setIfInBounds_toArray, List.set_cons_zero, List.set_cons_succ])
  refine wpAnyH_take (i := 7) (oi := ⟨some 50, Op.binOp BinOp.eql 26 (Operand.tmp 49) (Operand.const (Value.int IntKind.i64 0)) 26, 4, _, _, some (5, false)⟩) (v := ?vy7) rfl (by kernel_rfl) (by kernel_rfl) (by kernel_rfl) (fun _ _ _ h => h) (Or.inl ⟨by rfl, ?hy7⟩) HC5.out ?ry7
  case hy7 => (intro wz hSw; go_simp <;> with_reducible rfl)
  (try simp only [Act.put, List.setIfInBounds_toArray, List.set_cons_zero, List.set_cons_succ])
  refine wpAnyH_take (i := 8) (oi := ⟨some 51, Op.move (Operand.tmp 50), 4, _, _, some (5, false)⟩) (v := ?vy8) rfl (by kernel_rfl) (by kernel_rfl) (by kernel_rfl) (fun _ _ _ h => h) (Or.inl ⟨by rfl, ?hy8⟩) HC5.out ?ry8
  case hy8 => (intro wz hSw; go_simp <;> with_reducible rfl)
  (try simp only [Act.put, List.setIfInBounds_toArray, List.set_cons_zero, List.set_cons_succ])
  refine wpAnyH_take (i := 9) (oi := ⟨some 52, Op.move (Operand.tmp 11), 26, _, _, some (8, true)⟩) (v := undef) rfl (by kernel_rfl) (by kernel_rfl) (by kernel_rfl) (fun _ _ _ h => h) (Or.inr ⟨by rfl, rfl⟩) HC5.out ?ry9
  (try simp only [Act.put, List.setIfInBounds_toArray, List.set_cons_zero, List.set_cons_succ])
  refine wpAnyH_take (i := 10) (oi := ⟨some 53, Op.binOp BinOp.eql 26 (Operand.tmp 52) (Operand.const (Value.int IntKind.i64 0)) 26, 4, _, _, some (8, true)⟩) (v := undef) rfl (by kernel_rfl) (by kernel_rfl) (by kernel_rfl) (fun _ _ _ h => h) (Or.inr ⟨by rfl, rfl⟩) HC5.out ?ry10
  (try simp only [Act.put, List.setIfInBounds_toArray, List.set_cons_zero, List.set_cons_succ])
  refine wpAnyH_take (i := 11) (oi := ⟨some 54, Op.pick (Operand.tmp 51) (Operand.tmp 53) (Operand.const (Value.bool false)), 4, _, _, some (5, false)⟩) (v := ?vy11) rfl (by kernel_rfl) (by kernel_rfl) (by kernel_rfl) (fun _ _ _ h => h) (Or.inl ⟨by rfl, ?hy11⟩) HC5.out ?ry11
  case hy11 => (intro wz hSw; go_simp <;> with_reducible rfl)
  (try simp only [Act.put, List.setIfInBounds_toArray, List.set_cons_zero, List.set_cons_succ])
  refine wpAnyH_take (i := 12) (oi := ⟨some 55, Op.move (Operand.tmp 54), 4, _, _, some (5, false)⟩) (v := ?vy12) rfl (by kernel_rfl) (by kernel_rfl) (by kernel_rfl) (fun _ _ _ h => h) (Or.inl ⟨by rfl, ?hy12⟩) HC5.out ?ry12
  case hy12 => (intro wz hSw; go_simp <;> with_reducible rfl)
  (try simp only [Act.put, List.setIfInBounds_toArray, List.set_cons_zero, List.set_cons_succ])
  refine wpAnyH_take (i := 13) (oi := ⟨some 56, Op.move (Operand.tmp 8), 25, _, _, some (12, true)⟩) (v := undef) rfl (by kernel_rfl) (by kernel_rfl) (by kernel_rfl) (fun _ _ _ h => h) (Or.inr ⟨by rfl, rfl⟩) HC5.out ?ry13
  (try simp only [Act.put, List.setIfInBounds_toArray, List.set_cons_zero, List.set_cons_succ])
  refine wpAnyH_take (i := 14) (oi := ⟨some 57, Op.convert 25 9 (Operand.tmp 56), 9, _, _, some (12, true)⟩) (v := undef) rfl (by kernel_rfl) (by kernel_rfl) (by kernel_rfl) (fun _ _ _ h => h) (Or.inr ⟨by rfl, rfl⟩) HC5.out ?ry14
  (try simp only [Act.put, List.setIfInBounds_toArray, List.set_cons_zero, List.set_cons_succ])
  refine wpAnyH_take (i := 15) (oi := ⟨some 58, Op.move (Operand.tmp 10), 25, _, _, some (12, true)⟩) (v := undef) rfl (by kernel_rfl) (by kernel_rfl) (by kernel_rfl) (fun _ _ _ h => h) (Or.inr ⟨by rfl, rfl⟩) HC5.out ?ry15
  (try simp only [Act.put, List.setIfInBounds_toArray, List.set_cons_zero, List.set_cons_succ])
  refine wpAnyH_take (i := 16) (oi := ⟨some 59, Op.convert 25 9 (Operand.tmp 58), 9, _, _, some (12, true)⟩) (v := undef) rfl (by kernel_rfl) (by kernel_rfl) (by kernel_rfl) (fun _ _ _ h => h) (Or.inr ⟨by rfl, rfl⟩) HC5.out ?ry16
  (try simp only [Act.put, List.setIfInBounds_toArray, List.set_cons_zero, List.set_cons_succ])
  refine wpAnyH_take (i := 17) (oi := ⟨some 60, Op.binOp BinOp.eql 9 (Operand.tmp 57) (Operand.tmp 59) 9, 4, _, _, some (12, true)⟩) (v := undef) rfl (by kernel_rfl) (by kernel_rfl) (by kernel_rfl) (fun _ _ _ h => h) (Or.inr ⟨by rfl, rfl⟩) HC5.out ?ry17
  (try simp only [Act.put, List.setIfInBounds_toArray, List.set_cons_zero, List.set_cons_succ])
  refine wpAnyH_take (i := 18) (oi := ⟨some 61, Op.load 23 (Operand.tmp 3), 23, _, _, some (12, true)⟩) (v := undef) rfl (by kernel_rfl) (by kernel_rfl) (by kernel_rfl) (fun _ _ _ h => h) (Or.inr ⟨by rfl, rfl⟩) HC5.out ?ry18
  (try simp only [Act.put, List.setIfInBounds_toArray, List.set_cons_zero, List.set_cons_succ])
  refine wpAnyH_take (i := 19) (oi := ⟨some 62, Op.load 23 (Operand.tmp 4), 23, _, _, some (12, true)⟩) (v := undef) rfl (by kernel_rfl) (by kernel_rfl) (by kernel_rfl) (fun _ _ _ h => h) (Or.inr ⟨by rfl, rfl⟩) HC5.out ?ry19
  (try simp only [Act.put, List.setIfInBounds_toArray, List.set_cons_zero, List.set_cons_succ])
  refine wpAnyH_take (i := 20) (oi := ⟨some 63, Op.binOp BinOp.eql 23 (Operand.tmp 61) (Operand.tmp 62) 23, 4, _, _, some (12, true)⟩) (v := undef) rfl (by kernel_rfl) (by kernel_rfl) (by kernel_rfl) (fun _ _ _ h => h) (Or.inr ⟨by rfl, rfl⟩) HC5.out ?ry20
  (try simp only [Act.put, List.setIfInBounds_toArray, List.set_cons_zero, List.set_cons_succ])
  refine wpAnyH_take (i := 21) (oi := ⟨some 64, Op.binOp BinOp.neq 4 (Operand.tmp 60) (Operand.tmp 63) 4, 4, _, _, some (12, true)⟩) (v := undef) rfl (by kernel_rfl) (by kernel_rfl) (by kernel_rfl) (fun _ _ _ h => h) (Or.inr ⟨by rfl, rfl⟩) HC5.out ?ry21
  (try simp only [Act.put, List.setIfInBounds_toArray, List.set_cons_zero, List.set_cons_succ])
  refine wpAnyH_take (i := 22) (oi := ⟨some 65, Op.pick (Operand.tmp 55) (Operand.tmp 64) (Operand.const (Value.bool false)), 4, _, _, some (5, false)⟩) (v := ?vy22) rfl (by kernel_rfl) (by kernel_rfl) (by kernel_rfl) (fun _ _ _ h => h) (Or.inl ⟨by rfl, ?hy22⟩) HC5.out ?ry22
  case hy22 => (intro wz hSw; go_simp <;> with_reducible rfl)
  (try simp only [Act.put, List.setIfInBounds_toArray, List.set_cons_zero, List.set_cons_succ])
  refine wpAnyH_take (i := 23) (oi := ⟨some 66, Op.pick (Operand.tmp 48) (Operand.const (Value.bool true)) (Operand.tmp 65), 4, _, _, none⟩) (v := ?vy23) rfl (by kernel_rfl) (by kernel_rfl) (by kernel_rfl) (fun _ _ _ h => h) (Or.inl ⟨by rfl, ?hy23⟩) HC5.out ?ry23
  case hy23 => (intro wz hSw; go_simp <;> with_reducible rfl)
  (try simp only [Act.put, List.setIfInBounds_toArray, List.set_cons_zero, List.set_cons_succ])
  refine wpAnyH_done (by kernel_rfl) ?_ _
  refine NoPanic.normal ?_
  have HV9 := Lib.hid (below_more HV4.out HC5.out)
  clear HX4 HY4 HV4 HO1 HO2 HC5 HQ4 HP4
  generalize w5 = w9 at *
  go_wp2_with (fail)
  
  have HR9 := Lib.hid (HR.out.below HV9.out (Nat.le_refl _))
  have hd := decode_any A c l w9 w.heap.size HR9.out HV9.out.size (by omega) HBy.out HC.out
  cases hk : okB l with
  | false =>
    have h1 : deC l = zC := by simp [deC, hk]
    have h2 : deE l = 2 := by simp [deE, hk]
    rw [h1, h2] at hd
    have HD : Hid (Calls Try.prog 13 #[.slice A l.length c] w9 fun e w' => e = .returned (.tuple #[.agg #[.int .i64 0, .string { data := #[] }, .int .i64 0, .int .i64 0], .int .i64 2]) ∧ Below w9.heap.size w9 w') := Lib.hid hd
    clear hd h1 h2 hk
    (with_reducible refine HD.out.mono ?_); rintro e x1 ⟨rfl, hBx⟩
    have HVx := Lib.hid ((below_more HV9.out hBx).alloc (below_more HV9.out hBx).size (.cells #[.int .i64 0, .string { data := #[] }, .int .i64 0, .int .i64 0] 23))
    clear hBx
    go_wp2
    go_ret
    exact ⟨rfl, HVx.out⟩
  | true =>
    obtain ⟨k1', k2'⟩ := ok_parts hk
    have h1 : deC l = say l := by simp [deC, hk]
    have h2 : deE l = 0 := by simp [deE, hk]
    rw [h1, h2] at hd
    have hfs := fc_say HBy.out
    have hts := say_text (l := l)
    generalize say l = s at hd hfs hts k1' k2'
    have HEs : Hid (∀ U, Calls Try.prog 7 #[.agg #[.int .i64 s.d, .string (strOfNums s.t), .int .i64 s.a, .int .i64 s.b]] U (EA U s)) := Lib.hid (fun U => encode_any s hfs (by omega) U)
    have HE0 : Hid (enE s = 0 ∧ enL s = l) := Lib.hid ⟨by simp [enE, k1'], by simp [enL, k1', k2']⟩
    have HD := Lib.hid hd
    clear hd h1 h2 hk k1' k2' hfs hts
    (with_reducible refine HD.out.mono ?_); rintro e x1 ⟨rfl, hBx⟩
    have HVx := Lib.hid ((below_more HV9.out hBx).alloc (below_more HV9.out hBx).size (oC s))
    have HXx : Hid (Bx (x1.alloc (oC s)) x1.heap.size s) := Lib.hid (heap_alloc_new x1 _)
    clear hBx
    go_wp2_with (fail)
    generalize x1.alloc (.cells #[.int .i64 s.d, .string (strOfNums s.t), .int .i64 s.a, .int .i64 s.b] 23) = x2 at *
    (with_reducible refine (HEs.out _).mono ?_); rintro e x3 ⟨ly, Ay, ky, HLy, rfl, HOy, HBz⟩
    rw [HE0.out.1]
    obtain rfl : ly = l := HLy.out.trans HE0.out.2
    have HVz := Lib.hid (HVx.out.trans (HBz.out.mono HVx.out.size))
    have hcv1 := conv ky (own_rd HOy.out)
    have hcv2 := conv c (HR.out.below HVz.out (Nat.le_refl _))
    go_wp2
    go_ret
    exact ⟨rfl, HVz.out⟩

set_option maxRecDepth 100000 in
set_option maxHeartbeats 8000000 in
theorem wayTF (w : World) (d a b : Int) (t : List Int) (d' a' b' : Int) (t' : List Int) (hf : FC (⟨d, t, a, b⟩ : Cm)) (hf' : FC (⟨d', t', a', b'⟩ : Cm)) (A : Option Addr) (c : Nat) (l : List Int) (hrd : Rd .u8 w w.heap.size A l) (hc : l.length ≤ c) (hx : Byt l) (h : (t.length : Int) + t'.length + l.length ≤ 2048) (hr : rtB (⟨d, t, a, b⟩ : Cm) = true) (hr2 : rtB (⟨d', t', a', b'⟩ : Cm) = false) :
    Calls Try.prog 5 #[.agg #[.int .i64 d, .string (strOfNums t), .int .i64 a, .int .i64 b], .agg #[.int .i64 d', .string (strOfNums t'), .int .i64 a', .int .i64 b'], .slice A l.length c] w fun e w' => e = .returned (.bool true) ∧ Below w.heap.size w w' := by
  have HEn : Hid (∀ V, Calls Try.prog 7 #[.agg #[.int .i64 d, .string (strOfNums t), .int .i64 a, .int .i64 b]] V (EA V (⟨d, t, a, b⟩ : Cm))) := Lib.hid (fun V => encode_any _ hf (by show ((t.length : Nat) : Int) ≤ 100000; omega) V)
  have HEd : Hid (∀ V, Calls Try.prog 7 #[.agg #[.int .i64 d', .string (strOfNums t'), .int .i64 a', .int .i64 b']] V (EA V (⟨d', t', a', b'⟩ : Cm))) := Lib.hid (fun V => encode_any _ hf' (by show ((t'.length : Nat) : Int) ≤ 100000; omega) V)
  have HRi : Hid (∀ V : World, Calls Try.prog 9 #[.agg #[.int .i64 d, .string (strOfNums t), .int .i64 a, .int .i64 b]] V fun e w' => e = .returned (.bool true) ∧ Below V.heap.size V w') := Lib.hid (fun V => by rw [← hr]; exact right_any _ hf (by show ((t.length : Nat) : Int) ≤ 10000000; omega) V)
  have HE1 : Hid (enE (⟨d, t, a, b⟩ : Cm) = 0) := Lib.hid (by simp [enE, hr])
  have HE2 : Hid (enE (⟨d', t', a', b'⟩ : Cm) = 1) := Lib.hid (by simp [enE, hr2])
  have HDe : Hid (deC (enL (⟨d, t, a, b⟩ : Cm)) = (⟨d, t, a, b⟩ : Cm) ∧ deE (enL (⟨d, t, a, b⟩ : Cm)) = 0 ∧ deC (enL (⟨d, t, a, b⟩ : Cm) ++ [0]) = zC ∧ deE (enL (⟨d, t, a, b⟩ : Cm) ++ [0]) = 2) := Lib.hid (by rw [show enL (⟨d, t, a, b⟩ : Cm) = ld (⟨d, t, a, b⟩ : Cm) by simp [enL, hr]]; exact ⟨(de_ld hf hr).1, (de_ld hf hr).2, (de_zero hf hr).1, (de_zero hf hr).2⟩)
  have HF1 := Lib.hid hf; have HF2 := Lib.hid hf'
  have HR := Lib.hid hrd; have HC := Lib.hid hc; have HBy := Lib.hid hx
  have n1 := size_str t
  have n2 := size_str t'
  have hn : decide ((2048 : Int) < (t.length : Int) + t'.length + l.length) = false := by simpa using h
  have HB0 : Hid (Below w.heap.size w ((w.alloc (oC (⟨d, t, a, b⟩ : Cm))).alloc (oC (⟨d', t', a', b'⟩ : Cm)))) := Lib.hid (by go_grown)
  have HX0 : Hid (Bx ((w.alloc (oC (⟨d, t, a, b⟩ : Cm))).alloc (oC (⟨d', t', a', b'⟩ : Cm))) w.heap.size (⟨d, t, a, b⟩ : Cm)) := Lib.hid (Bx.alloc (heap_alloc_new w _) _)
  have HY0 : Hid (Bx ((w.alloc (oC (⟨d, t, a, b⟩ : Cm))).alloc (oC (⟨d', t', a', b'⟩ : Cm))) (w.heap.size + 1) (⟨d', t', a', b'⟩ : Cm)) := Lib.hid (bx_second w (⟨d, t, a, b⟩ : Cm) (⟨d', t', a', b'⟩ : Cm))
  clear hf hf' hrd hc hx hr hr2
  go_enter Try.func5, Try.ntmps5
  go_wp2_with (fail)
  generalize (w.alloc (oC (⟨d, t, a, b⟩ : Cm))).alloc (oC (⟨d', t', a', b'⟩ : Cm)) = w0 at *
  generalize hR : w.heap.size + 1 = R at *
  have HRn := Lib.hid hR; clear hR
  have hq0 : w.heap.size < w0.heap.size := lt_of_block HX0.out
  have hp0 : R < w0.heap.size := lt_of_block HY0.out
  (with_reducible refine (small_any w0).mono ?_); rintro e w1 ⟨rfl, hB1⟩
  have HX1 := Lib.hid (HX0.out.of hB1 hq0)
  have HY1 := Lib.hid (HY0.out.of hB1 hp0)
  have HV1 : Hid (Below w.heap.size w w1) := Lib.hid (HB0.out.trans (hB1.mono (Nat.le_of_lt hq0)))
  have hq1 : w.heap.size < w1.heap.size := lt_of_block HX1.out
  have hp1 : R < w1.heap.size := lt_of_block HY1.out
  clear hB1 hq0 hp0 HX0 HY0 HB0
  obtain ⟨z0, z1, z2, z3⟩ := HX1.out.at
  obtain ⟨y0, y1, y2, y3⟩ := HY1.out.at
  simp only at z0 z1 z2 z3 y0 y1 y2 y3
  go_wp2_with (fail)
  (with_reducible refine (HEn.out _).mono ?_); rintro e w2 ⟨l1, A1, k1, HL1, rfl, HO1, HB2⟩
  rw [HE1.out]
  have HX2 := Lib.hid (HX1.out.of HB2.out hq1)
  have HY2 := Lib.hid (HY1.out.of HB2.out hp1)
  have HV2 : Hid (Below w.heap.size w w2) := Lib.hid (HV1.out.trans (HB2.out.mono (Nat.le_of_lt hq1)))
  have hq2 : w.heap.size < w2.heap.size := lt_of_block HX2.out
  have hp2 : R < w2.heap.size := lt_of_block HY2.out
  clear z0 z1 z2 z3 y0 y1 y2 y3 HX1 HY1 hq1 hp1
  obtain ⟨z0, z1, z2, z3⟩ := HX2.out.at
  obtain ⟨y0, y1, y2, y3⟩ := HY2.out.at
  simp only at z0 z1 z2 z3 y0 y1 y2 y3
  go_wp2_with (fail)
  (with_reducible refine (HEd.out _).mono ?_); rintro e w3 ⟨l2, A2, k2, HL2, rfl, HO2, HB3⟩
  rw [HE2.out]
  rw [← HL1.out] at HDe
  have HLn : Hid (l1.length ≤ 25) := Lib.hid (by rw [HL1.out]; exact en_len HF1.out)
  have HX3 := Lib.hid (HX2.out.of HB3.out hq2)
  have HY3 := Lib.hid (HY2.out.of HB3.out hp2)
  have HV3 : Hid (Below w.heap.size w w3) := Lib.hid (HV2.out.trans (HB3.out.mono (Nat.le_of_lt hq2)))
  clear z0 z1 z2 z3 y0 y1 y2 y3 HX2 HY2 hq2 hp2
  go_wp2_with (fail)
  have HX4 : Hid (Bx w3.drew w.heap.size (⟨d, t, a, b⟩ : Cm)) := HX3
  have HY4 : Hid (Bx w3.drew R (⟨d', t', a', b'⟩ : Cm)) := HY3
  replace HO1 : Hid (Own w3.drew w1.heap.size .u8 5 A1 k1 l1) := Lib.hid (HO1.out.below HB3.out.drew (Nat.le_refl _))
  replace HO2 : Hid (Own w3.drew w2.heap.size .u8 5 A2 k2 l2) := HO2
  have HV4 := Lib.hid HV3.out.drew
  refine wp_region_noPanic ?_
  refine wp_region_held_drew (S := fun w' => Below w3.drew.heap.size w3.drew w') (by kernel_rfl) (Below.refl _ _) (fun _ => ?_)
  clear HX3 HY3 HV3 HV2 HB2 HB3 HV1
  generalize w3.drew = w4 at HX4 HY4 HO1 HO2 HV4 ⊢
  have HQ4 : Hid (w.heap.size < w4.heap.size) := Lib.hid (lt_of_block HX4.out)
  have HP4 : Hid (R < w4.heap.size) := Lib.hid (lt_of_block HY4.out)

  refine wpAnyH_take (i := 0) (oi := ⟨some 43, Op.move (Operand.tmp 9), 26, _, _, none⟩) (v := ?vy0) rfl (by kernel_rfl) (by kernel_rfl) (by kernel_rfl) (fun _ _ _ h => h) (Or.inl ⟨by rfl, ?hy0⟩) (Below.refl _ _) ?ry0
  case hy0 => (intro wz hSw; go_simp <;> with_reducible rfl)
  (try simp only [Act.put, List.setIfInBounds_toArray, List.set_cons_zero, List.set_cons_succ])
  refine wpAnyH_take (i := 1) (oi := ⟨some 44, Op.binOp BinOp.eql 26 (Operand.tmp 43) (Operand.const (Value.int IntKind.i64 0)) 26, 4, _, _, none⟩) (v := ?vy1) rfl (by kernel_rfl) (by kernel_rfl) (by kernel_rfl) (fun _ _ _ h => h) (Or.inl ⟨by rfl, ?hy1⟩) (Below.refl _ _) ?ry1
  case hy1 => (intro wz hSw; go_simp <;> with_reducible rfl)
  (try simp only [Act.put, List.setIfInBounds_toArray, List.set_cons_zero, List.set_cons_succ])
  refine wpAnyH_take (i := 2) (oi := ⟨some 45, Op.load 23 (Operand.tmp 3), 23, _, _, none⟩) (v := ?vy2) rfl (by kernel_rfl) (by kernel_rfl) (by kernel_rfl) (fun _ _ _ h => h) (Or.inl ⟨by rfl, ?hy2⟩) (Below.refl _ _) ?ry2
  case hy2 => (intro wz hSw; have hc := (HX4.out.of hSw HQ4.out).at; obtain ⟨c0, c1, c2, c3⟩ := hc; simp only at c0 c1 c2 c3; go_simp <;> with_reducible rfl)
  (try simp only [Act.put, List.setIfInBounds_toArray, List.set_cons_zero, List.set_cons_succ])
  refine wpAnyH_ready (rs := [3]) (by kernel_rfl) (by simp) ?_
  refine AllReadyH.cons (o := ⟨some 46, Op.call { callee := Callee.value (Operand.func 9), args := #[Operand.tmp 45], argTypes := #[23] }, 4, _, _, none⟩) rfl (fun K hK => ?_) AllReadyH.nil
  go_simp
  (with_reducible refine (HRi.out _).mono ?_); rintro e w5 ⟨rfl, hB5⟩; have HC5 := Lib.hid hB5; clear hB5
  refine hK.out _ _ HC5.out (fun _ => ?_)
  clear hK K
  (try simp only [Act.put, List.setIfInBounds_toArray, List.set_cons_zero, List.set_cons_succ])
  refine wpAnyH_take (i := 4) (oi := ⟨some 47, Op.binOp BinOp.neq 4 (Operand.tmp 44) (Operand.tmp 46) 4, 4, _, _, none⟩) (v := ?vy4) rfl (by kernel_rfl) (by kernel_rfl) (by kernel_rfl) (fun _ _ _ h => h) (Or.inl ⟨by rfl, ?hy4⟩) HC5.out ?ry4
  case hy4 => (intro wz hSw; go_simp <;> with_reducible rfl)
  (try simp only [Act.put, List.setIfInBounds_toArray, List.set_cons_zero, List.set_cons_succ])
  refine wpAnyH_take (i := 5) (oi := ⟨some 48, Op.move (Operand.tmp 47), 4, _, _, none⟩) (v := ?vy5) rfl (by kernel_rfl) (by kernel_rfl) (by kernel_rfl) (fun _ _ _ h => h) (Or.inl ⟨by rfl, ?hy5⟩) HC5.out ?ry5
  case hy5 => (intro wz hSw; go_simp <;> with_reducible rfl)
  (try simp only [Act.put, List.setIfInBounds_toArray, List.set_cons_zero, List.set_cons_succ])
  refine wpAnyH_take (i := 6) (oi := ⟨some 49, Op.move (Operand.tmp 9), 26, _, _, some (5, false)⟩) (v := ?vy6) rfl (by kernel_rfl) (by kernel_rfl) (by kernel_rfl) (fun _ _ _ h => h) (Or.inl ⟨by rfl, ?hy6⟩) HC5.out ?ry6
  case hy6 => (intro wz hSw; go_simp <;> with_reducible rfl)
  (try simp only [Act.put, List.setIfInBounds_toArray, List.set_cons_zero, List.set_cons_succ])
  refine wpAnyH_take (i := 7) (oi := ⟨some 50, Op.binOp BinOp.eql 26 (Operand.tmp 49) (Operand.const (Value.int IntKind.i64 0)) 26, 4, _, _, some (5, false)⟩) (v := ?vy7) rfl (by kernel_rfl) (by kernel_rfl) (by kernel_rfl) (fun _ _ _ h => h) (Or.inl ⟨by rfl, ?hy7⟩) HC5.out ?ry7
  case hy7 => (intro wz hSw; go_simp <;> with_reducible rfl)
  (try simp only [Act.put, List.setIfInBounds_toArray, List.set_cons_zero, List.set_cons_succ])
  refine wpAnyH_take (i := 8) (oi := ⟨some 51, Op.move (Operand.tmp 50), 4, _, _, some (5, false)⟩) (v := ?vy8) rfl (by kernel_rfl) (by kernel_rfl) (by kernel_rfl) (fun _ _ _ h => h) (Or.inl ⟨by rfl, ?hy8⟩) HC5.out ?ry8
  case hy8 => (intro wz hSw; go_simp <;> with_reducible rfl)
  (try simp only [Act.put, List.setIfInBounds_toArray, List.set_cons_zero, List.set_cons_succ])
  refine wpAnyH_take (i := 9) (oi := ⟨some 52, Op.move (Operand.tmp 11), 26, _, _, some (8, true)⟩) (v := ?vy9) rfl (by kernel_rfl) (by kernel_rfl) (by kernel_rfl) (fun _ _ _ h => h) (Or.inl ⟨by rfl, ?hy9⟩) HC5.out ?ry9
  case hy9 => (intro wz hSw; go_simp <;> with_reducible rfl)
  (try simp only [Act.put, List.setIfInBounds_toArray, List.set_cons_zero, List.set_cons_succ])
  refine wpAnyH_take (i := 10) (oi := ⟨some 53, Op.binOp BinOp.eql 26 (Operand.tmp 52) (Operand.const (Value.int IntKind.i64 0)) 26, 4, _, _, some (8, true)⟩) (v := ?vy10) rfl (by kernel_rfl) (by kernel_rfl) (by kernel_rfl) (fun _ _ _ h => h) (Or.inl ⟨by rfl, ?hy10⟩) HC5.out ?ry10
  case hy10 => (intro wz hSw; go_simp <;> with_reducible rfl)
  (try simp only [Act.put, List.setIfInBounds_toArray, List.set_cons_zero, List.set_cons_succ])
  refine wpAnyH_take (i := 11) (oi := ⟨some 54, Op.pick (Operand.tmp 51) (Operand.tmp 53) (Operand.const (Value.bool false)), 4, _, _, some (5, false)⟩) (v := ?vy11) rfl (by kernel_rfl) (by kernel_rfl) (by kernel_rfl) (fun _ _ _ h => h) (Or.inl ⟨by rfl, ?hy11⟩) HC5.out ?ry11
  case hy11 => (intro wz hSw; go_simp <;> with_reducible rfl)
  (try simp only [Act.put, List.setIfInBounds_toArray, List.set_cons_zero, List.set_cons_succ])
  refine wpAnyH_take (i := 12) (oi := ⟨some 55, Op.move (Operand.tmp 54), 4, _, _, some (5, false)⟩) (v := ?vy12) rfl (by kernel_rfl) (by kernel_rfl) (by kernel_rfl) (fun _ _ _ h => h) (Or.inl ⟨by rfl, ?hy12⟩) HC5.out ?ry12
  case hy12 => (intro wz hSw; go_simp <;> with_reducible rfl)
  (try simp only [Act.put, List.setIfInBounds_toArray, List.set_cons_zero, List.set_cons_succ])
  refine wpAnyH_take (i := 13) (oi := ⟨some 56, Op.move (Operand.tmp 8), 25, _, _, some (12, true)⟩) (v := undef) rfl (by kernel_rfl) (by kernel_rfl) (by kernel_rfl) (fun _ _ _ h => h) (Or.inr ⟨by rfl, rfl⟩) HC5.out ?ry13
  (try simp only [Act.put, List.setIfInBounds_toArray, List.set_cons_zero, List.set_cons_succ])
  refine wpAnyH_take (i := 14) (oi := ⟨some 57, Op.convert 25 9 (Operand.tmp 56), 9, _, _, some (12, true)⟩) (v := undef) rfl (by kernel_rfl) (by kernel_rfl) (by kernel_rfl) (fun _ _ _ h => h) (Or.inr ⟨by rfl, rfl⟩) HC5.out ?ry14
  (try simp only [Act.put, List.setIfInBounds_toArray, List.set_cons_zero, List.set_cons_succ])
  refine wpAnyH_take (i := 15) (oi := ⟨some 58, Op.move (Operand.tmp 10), 25, _, _, some (12, true)⟩) (v := undef) rfl (by kernel_rfl) (by kernel_rfl) (by kernel_rfl) (fun _ _ _ h => h) (Or.inr ⟨by rfl, rfl⟩) HC5.out ?ry15
  (try simp only [Act.put, List.setIfInBounds_toArray, List.set_cons_zero, List.set_cons_succ])
  refine wpAnyH_take (i := 16) (oi := ⟨some 59, Op.convert 25 9 (Operand.tmp 58), 9, _, _, some (12, true)⟩) (v := undef) rfl (by kernel_rfl) (by kernel_rfl) (by kernel_rfl) (fun _ _ _ h => h) (Or.inr ⟨by rfl, rfl⟩) HC5.out ?ry16
  (try simp only [Act.put, List.setIfInBounds_toArray, List.set_cons_zero, List.set_cons_succ])
  refine wpAnyH_take (i := 17) (oi := ⟨some 60, Op.binOp BinOp.eql 9 (Operand.tmp 57) (Operand.tmp 59) 9, 4, _, _, some (12, true)⟩) (v := undef) rfl (by kernel_rfl) (by kernel_rfl) (by kernel_rfl) (fun _ _ _ h => h) (Or.inr ⟨by rfl, rfl⟩) HC5.out ?ry17
  (try simp only [Act.put, List.setIfInBounds_toArray, List.set_cons_zero, List.set_cons_succ])
  refine wpAnyH_take (i := 18) (oi := ⟨some 61, Op.load 23 (Operand.tmp 3), 23, _, _, some (12, true)⟩) (v := undef) rfl (by kernel_rfl) (by kernel_rfl) (by kernel_rfl) (fun _ _ _ h => h) (Or.inr ⟨by rfl, rfl⟩) HC5.out ?ry18
  (try simp only [Act.put, List.setIfInBounds_toArray, List.set_cons_zero, List.set_cons_succ])
  refine wpAnyH_take (i := 19) (oi := ⟨some 62, Op.load 23 (Operand.tmp 4), 23, _, _, some (12, true)⟩) (v := undef) rfl (by kernel_rfl) (by kernel_rfl) (by kernel_rfl) (fun _ _ _ h => h) (Or.inr ⟨by rfl, rfl⟩) HC5.out ?ry19
  (try simp only [Act.put, List.setIfInBounds_toArray, List.set_cons_zero, List.set_cons_succ])
  refine wpAnyH_take (i := 20) (oi := ⟨some 63, Op.binOp BinOp.eql 23 (Operand.tmp 61) (Operand.tmp 62) 23, 4, _, _, some (12, true)⟩) (v := undef) rfl (by kernel_rfl) (by kernel_rfl) (by kernel_rfl) (fun _ _ _ h => h) (Or.inr ⟨by rfl, rfl⟩) HC5.out ?ry20
  (try simp only [Act.put, List.setIfInBounds_toArray, List.set_cons_zero, List.set_cons_succ])
  refine wpAnyH_take (i := 21) (oi := ⟨some 64, Op.binOp BinOp.neq 4 (Operand.tmp 60) (Operand.tmp 63) 4, 4, _, _, some (12, true)⟩) (v := undef) rfl (by kernel_rfl) (by kernel_rfl) (by kernel_rfl) (fun _ _ _ h => h) (Or.inr ⟨by rfl, rfl⟩) HC5.out ?ry21
  (try simp only [Act.put, List.setIfInBounds_toArray, List.set_cons_zero, List.set_cons_succ])
  refine wpAnyH_take (i := 22) (oi := ⟨some 65, Op.pick (Operand.tmp 55) (Operand.tmp 64) (Operand.const (Value.bool false)), 4, _, _, some (5, false)⟩) (v := ?vy22) rfl (by kernel_rfl) (by kernel_rfl) (by kernel_rfl) (fun _ _ _ h => h) (Or.inl ⟨by rfl, ?hy22⟩) HC5.out ?ry22
  case hy22 => (intro wz hSw; go_simp <;> with_reducible rfl)
  (try simp only [Act.put, List.setIfInBounds_toArray, List.set_cons_zero, List.set_cons_succ])
  refine wpAnyH_take (i := 23) (oi := ⟨some 66, Op.pick (Operand.tmp 48) (Operand.const (Value.bool true)) (Operand.tmp 65), 4, _, _, none⟩) (v := ?vy23) rfl (by kernel_rfl) (by kernel_rfl) (by kernel_rfl) (fun _ _ _ h => h) (Or.inl ⟨by rfl, ?hy23⟩) HC5.out ?ry23
  case hy23 => (intro wz hSw; go_simp <;> with_reducible rfl)
  (try simp only [Act.put, List.setIfInBounds_toArray, List.set_cons_zero, List.set_cons_succ])
  refine wpAnyH_done (by kernel_rfl) ?_ _
  refine NoPanic.normal ?_
  have HX5 := Lib.hid (HX4.out.of HC5.out HQ4.out)
  have HV5 := Lib.hid (below_more HV4.out HC5.out)
  have HO5 := Lib.hid (HO1.out.below HC5.out (Nat.le_refl _))
  have hq5 : w.heap.size < w5.heap.size := lt_of_block HX5.out
  clear HX4 HY4 HV4 HO1 HO2 HC5 HQ4 HP4
  have hd6 := decode_any A1 k1 l1 w5 w5.heap.size (own_rd HO5.out) (Nat.le_refl _) (by have := HLn.out; omega) (by rw [HL1.out]; exact en_byt HF1.out) (own_cap HO5.out)
  rw [HDe.out.1, HDe.out.2.1] at hd6
  have HD6 : Hid (Calls Try.prog 13 #[.slice A1 l1.length k1] w5 fun e w' => e = .returned (.tuple #[.agg #[.int .i64 d, .string (strOfNums t), .int .i64 a, .int .i64 b], .int .i64 0]) ∧ Below w5.heap.size w5 w') := Lib.hid hd6
  clear hd6
  go_wp2_with (fail)
  (with_reducible refine HD6.out.mono ?_); rintro e w6 ⟨rfl, hB6⟩
  have HX6 := Lib.hid ((HX5.out.of hB6 hq5).alloc (oC (⟨d, t, a, b⟩ : Cm)))
  have HZ6 : Hid (Bx (w6.alloc (oC (⟨d, t, a, b⟩ : Cm))) w6.heap.size (⟨d, t, a, b⟩ : Cm)) := Lib.hid (heap_alloc_new w6 _)
  have HV6 := Lib.hid ((below_more HV5.out hB6).alloc (below_more HV5.out hB6).size (oC (⟨d, t, a, b⟩ : Cm)))
  have HO6 := Lib.hid ((HO5.out.below hB6 (Nat.le_refl _)).alloc (oC (⟨d, t, a, b⟩ : Cm)))
  have hsz6 : (w6.alloc (oC (⟨d, t, a, b⟩ : Cm))).heap.size = w6.heap.size + 1 := by simp
  have HOe := Lib.hid (Pk.own_empty (w6.alloc (oC (⟨d, t, a, b⟩ : Cm))))
  rw [hsz6] at HOe
  have HSz6 := Lib.hid hsz6
  clear hB6 hsz6
  have HQw : Hid (w.heap.size ≤ w6.heap.size) := Lib.hid (by have h1 := HV6.out.size; have h2 := lt_of_block HZ6.out; have h3 := HSz6.out; have h4 := lt_of_block HX6.out; omega)
  have HQx : Hid (w.heap.size < w6.heap.size + 1) := Lib.hid (by have := HQw.out; omega)
  go_wp2_with (first
    | (at_builtin; refine Pm.wpList_app (K := .u8) (t := 25) (e := 5) Try.underlying25 byte_info rfl (by omega) rfl (.tmp 75) (.tmp 76) rfl (w6.heap.size + 1) (w6.alloc (oC (⟨d, t, a, b⟩ : Cm))).heap.size (some ⟨w6.heap.size + 1, 0, none⟩) 0 [] l1 A1 k1 rfl rfl HOe.out ((own_rd HO6.out).alloc (Nat.le_refl _) _) (by have := HLn.out; simp; omega) (by have := HSz6.out; simp) ?_; intro A7 k7 w7 l7 HL7 HO7 HS7; have HB7 : Hid (Below (w6.heap.size + 1) (w6.alloc (oC (⟨d, t, a, b⟩ : Cm))) w7) := Lib.hid (Pk.below_step (Below.alloc (Below.refl _ _) (by have := HSz6.out; omega) _) HS7.out (fun k hk => by simp [blk] at hk; omega) (by have := HSz6.out; simp)); have HN7 := Lib.hid (bytes_new w7 [0] #[.int .u8 0] 0 rfl); have HLn7 : Hid (l7.length ≤ 25) := Lib.hid (by have h1 := HLn.out; have h2 := congrArg List.length HL7.out; simp at h2; omega))
    | (at_builtin; refine Pm.wpList_app (K := .u8) (t := 25) (e := 5) Try.underlying25 byte_info rfl (by omega) rfl (.tmp 77) (.tmp 78) rfl (w6.heap.size + 1) (w7.heap.size + 1) A7 k7 l7 [0] (some ⟨w7.heap.size, 0, none⟩) 1 rfl rfl (HO7.out.alloc _) HN7.out (by have := HLn7.out; simp; omega) (by have := HB7.out.size; have := HSz6.out; simp; omega) ?_; intro A8 k8 w8 l8 HL8 HO8 HS8))
  have HB8 : Hid (Below (w6.heap.size + 1) w7 w8) := Lib.hid (Pk.below_step (Below.alloc (Below.refl _ _) (by have := HB7.out.size; have := HSz6.out; omega) _) HS8.out (fun k hk => (HO7.out.lt k hk).1) (by have := HB7.out.size; have := HSz6.out; simp; omega))
  have HL78 : Hid (l8 = l1 ++ [0]) := Lib.hid (by rw [HL8.out, HL7.out]; rfl)
  have HB68 := Lib.hid (HB7.out.trans HB8.out)
  have HX8 := Lib.hid (HX6.out.of HB68.out HQx.out)
  have HZ8 := Lib.hid (HZ6.out.of HB68.out (Nat.lt_succ_self _))
  have HV8 := Lib.hid (HV6.out.trans (HB68.out.mono (Nat.le_of_lt HQx.out)))
  have hq8 : w.heap.size < w8.heap.size := lt_of_block HX8.out
  have hz8 : w6.heap.size < w8.heap.size := lt_of_block HZ8.out
  have hd8 := decode_any A8 k8 l8 w8 w8.heap.size (own_rd HO8.out) (Nat.le_refl _) (by have := HLn.out; rw [HL78.out, List.length_append]; simp; omega) (by rw [HL78.out, HL1.out]; exact (en_byt HF1.out).app (byt_one (by omega))) (own_cap HO8.out)
  rw [show deC l8 = zC by rw [HL78.out]; exact HDe.out.2.2.1, show deE l8 = 2 by rw [HL78.out]; exact HDe.out.2.2.2] at hd8
  have HD8 : Hid (Calls Try.prog 13 #[.slice A8 l8.length k8] w8 fun e w' => e = .returned (.tuple #[.agg #[.int .i64 0, .string { data := #[] }, .int .i64 0, .int .i64 0], .int .i64 2]) ∧ Below w8.heap.size w8 w') := Lib.hid hd8
  clear hd8 HX6 HZ6 HV6 HO6 HOe HO7 HS7 HN7 HO8 HS8 HX5 HV5 HO5
  (with_reducible refine HD8.out.mono ?_); rintro e w10 ⟨rfl, hB10⟩
  have HX10 := Lib.hid (HX8.out.of hB10 hq8)
  have HZ10 := Lib.hid (HZ8.out.of hB10 hz8)
  have HV9 := Lib.hid ((below_more HV8.out hB10).alloc (below_more HV8.out hB10).size (.cells #[.int .i64 0, .string { data := #[] }, .int .i64 0, .int .i64 0] 23))
  have hq10 : w.heap.size < w10.heap.size := lt_of_block HX10.out
  have hz10 : w6.heap.size < w10.heap.size := lt_of_block HZ10.out
  clear hB10 hq8 hz8 HX8 HZ8 HV8
  obtain ⟨z0, z1, z2, z3⟩ := HX10.out.at
  obtain ⟨y0, y1, y2, y3⟩ := HZ10.out.at
  simp only at z0 z1 z2 z3 y0 y1 y2 y3
  have hne : ∀ V : World, (binOp .neq 23 (.agg #[.int .i64 d, .string (strOfNums t), .int .i64 a, .int .i64 b]) (.agg #[.int .i64 d, .string (strOfNums t), .int .i64 a, .int .i64 b])).run Try.prog V = .ok (.bool false) V := fun V => neq_cmd (⟨d, t, a, b⟩ : Cm) (⟨d, t, a, b⟩ : Cm) HF1.out.t HF1.out.t true (by simp) V
  have hln : decide ((4096 : Int) < l1.length) = false := by have := HLn.out; simp; omega
  go_wp2_with (fail)
  clear z0 z1 z2 z3 y0 y1 y2 y3 hne
  generalize w10.alloc (.cells #[.int .i64 0, .string { data := #[] }, .int .i64 0, .int .i64 0] 23) = w9 at *
  
  have HR9 := Lib.hid (HR.out.below HV9.out (Nat.le_refl _))
  have hd := decode_any A c l w9 w.heap.size HR9.out HV9.out.size (by omega) HBy.out HC.out
  cases hk : okB l with
  | false =>
    have h1 : deC l = zC := by simp [deC, hk]
    have h2 : deE l = 2 := by simp [deE, hk]
    rw [h1, h2] at hd
    have HD : Hid (Calls Try.prog 13 #[.slice A l.length c] w9 fun e w' => e = .returned (.tuple #[.agg #[.int .i64 0, .string { data := #[] }, .int .i64 0, .int .i64 0], .int .i64 2]) ∧ Below w9.heap.size w9 w') := Lib.hid hd
    clear hd h1 h2 hk
    (with_reducible refine HD.out.mono ?_); rintro e x1 ⟨rfl, hBx⟩
    have HVx := Lib.hid ((below_more HV9.out hBx).alloc (below_more HV9.out hBx).size (.cells #[.int .i64 0, .string { data := #[] }, .int .i64 0, .int .i64 0] 23))
    clear hBx
    go_wp2
    go_ret
    exact ⟨rfl, HVx.out⟩
  | true =>
    obtain ⟨k1', k2'⟩ := ok_parts hk
    have h1 : deC l = say l := by simp [deC, hk]
    have h2 : deE l = 0 := by simp [deE, hk]
    rw [h1, h2] at hd
    have hfs := fc_say HBy.out
    have hts := say_text (l := l)
    generalize say l = s at hd hfs hts k1' k2'
    have HEs : Hid (∀ U, Calls Try.prog 7 #[.agg #[.int .i64 s.d, .string (strOfNums s.t), .int .i64 s.a, .int .i64 s.b]] U (EA U s)) := Lib.hid (fun U => encode_any s hfs (by omega) U)
    have HE0 : Hid (enE s = 0 ∧ enL s = l) := Lib.hid ⟨by simp [enE, k1'], by simp [enL, k1', k2']⟩
    have HD := Lib.hid hd
    clear hd h1 h2 hk k1' k2' hfs hts
    (with_reducible refine HD.out.mono ?_); rintro e x1 ⟨rfl, hBx⟩
    have HVx := Lib.hid ((below_more HV9.out hBx).alloc (below_more HV9.out hBx).size (oC s))
    have HXx : Hid (Bx (x1.alloc (oC s)) x1.heap.size s) := Lib.hid (heap_alloc_new x1 _)
    clear hBx
    go_wp2_with (fail)
    generalize x1.alloc (.cells #[.int .i64 s.d, .string (strOfNums s.t), .int .i64 s.a, .int .i64 s.b] 23) = x2 at *
    (with_reducible refine (HEs.out _).mono ?_); rintro e x3 ⟨ly, Ay, ky, HLy, rfl, HOy, HBz⟩
    rw [HE0.out.1]
    obtain rfl : ly = l := HLy.out.trans HE0.out.2
    have HVz := Lib.hid (HVx.out.trans (HBz.out.mono HVx.out.size))
    have hcv1 := conv ky (own_rd HOy.out)
    have hcv2 := conv c (HR.out.below HVz.out (Nat.le_refl _))
    go_wp2
    go_ret
    exact ⟨rfl, HVz.out⟩

set_option maxRecDepth 100000 in
set_option maxHeartbeats 8000000 in
theorem wayTT (w : World) (d a b : Int) (t : List Int) (d' a' b' : Int) (t' : List Int) (hf : FC (⟨d, t, a, b⟩ : Cm)) (hf' : FC (⟨d', t', a', b'⟩ : Cm)) (A : Option Addr) (c : Nat) (l : List Int) (hrd : Rd .u8 w w.heap.size A l) (hc : l.length ≤ c) (hx : Byt l) (h : (t.length : Int) + t'.length + l.length ≤ 2048) (hr : rtB (⟨d, t, a, b⟩ : Cm) = true) (hr2 : rtB (⟨d', t', a', b'⟩ : Cm) = true) :
    Calls Try.prog 5 #[.agg #[.int .i64 d, .string (strOfNums t), .int .i64 a, .int .i64 b], .agg #[.int .i64 d', .string (strOfNums t'), .int .i64 a', .int .i64 b'], .slice A l.length c] w fun e w' => e = .returned (.bool true) ∧ Below w.heap.size w w' := by
  have HEn : Hid (∀ V, Calls Try.prog 7 #[.agg #[.int .i64 d, .string (strOfNums t), .int .i64 a, .int .i64 b]] V (EA V (⟨d, t, a, b⟩ : Cm))) := Lib.hid (fun V => encode_any _ hf (by show ((t.length : Nat) : Int) ≤ 100000; omega) V)
  have HEd : Hid (∀ V, Calls Try.prog 7 #[.agg #[.int .i64 d', .string (strOfNums t'), .int .i64 a', .int .i64 b']] V (EA V (⟨d', t', a', b'⟩ : Cm))) := Lib.hid (fun V => encode_any _ hf' (by show ((t'.length : Nat) : Int) ≤ 100000; omega) V)
  have HRi : Hid (∀ V : World, Calls Try.prog 9 #[.agg #[.int .i64 d, .string (strOfNums t), .int .i64 a, .int .i64 b]] V fun e w' => e = .returned (.bool true) ∧ Below V.heap.size V w') := Lib.hid (fun V => by rw [← hr]; exact right_any _ hf (by show ((t.length : Nat) : Int) ≤ 10000000; omega) V)
  have HE1 : Hid (enE (⟨d, t, a, b⟩ : Cm) = 0) := Lib.hid (by simp [enE, hr])
  have HE2 : Hid (enE (⟨d', t', a', b'⟩ : Cm) = 0) := Lib.hid (by simp [enE, hr2])
  have HDe : Hid (deC (enL (⟨d, t, a, b⟩ : Cm)) = (⟨d, t, a, b⟩ : Cm) ∧ deE (enL (⟨d, t, a, b⟩ : Cm)) = 0 ∧ deC (enL (⟨d, t, a, b⟩ : Cm) ++ [0]) = zC ∧ deE (enL (⟨d, t, a, b⟩ : Cm) ++ [0]) = 2) := Lib.hid (by rw [show enL (⟨d, t, a, b⟩ : Cm) = ld (⟨d, t, a, b⟩ : Cm) by simp [enL, hr]]; exact ⟨(de_ld hf hr).1, (de_ld hf hr).2, (de_zero hf hr).1, (de_zero hf hr).2⟩)
  obtain ⟨x, hxx⟩ := bex ((⟨d, t, a, b⟩ : Cm) = (⟨d', t', a', b'⟩ : Cm))
  have HXi : Hid (x = true ↔ enL (⟨d, t, a, b⟩ : Cm) = enL (⟨d', t', a', b'⟩ : Cm)) := Lib.hid (by rw [hxx, show enL (⟨d, t, a, b⟩ : Cm) = ld (⟨d, t, a, b⟩ : Cm) by simp [enL, hr], show enL (⟨d', t', a', b'⟩ : Cm) = ld (⟨d', t', a', b'⟩ : Cm) by simp [enL, hr2]]; exact (ld_inj hf hf' hr hr2).symm)
  have HQc : Hid (∀ V : World, (binOp .eql 23 (.agg #[.int .i64 d, .string (strOfNums t), .int .i64 a, .int .i64 b]) (.agg #[.int .i64 d', .string (strOfNums t'), .int .i64 a', .int .i64 b'])).run Try.prog V = .ok (.bool x) V) := Lib.hid (fun V => eql_cmd (⟨d, t, a, b⟩ : Cm) (⟨d', t', a', b'⟩ : Cm) hf.t hf'.t x hxx V)
  have HF1 := Lib.hid hf; have HF2 := Lib.hid hf'
  have HR := Lib.hid hrd; have HC := Lib.hid hc; have HBy := Lib.hid hx
  have n1 := size_str t
  have n2 := size_str t'
  have hn : decide ((2048 : Int) < (t.length : Int) + t'.length + l.length) = false := by simpa using h
  have HB0 : Hid (Below w.heap.size w ((w.alloc (oC (⟨d, t, a, b⟩ : Cm))).alloc (oC (⟨d', t', a', b'⟩ : Cm)))) := Lib.hid (by go_grown)
  have HX0 : Hid (Bx ((w.alloc (oC (⟨d, t, a, b⟩ : Cm))).alloc (oC (⟨d', t', a', b'⟩ : Cm))) w.heap.size (⟨d, t, a, b⟩ : Cm)) := Lib.hid (Bx.alloc (heap_alloc_new w _) _)
  have HY0 : Hid (Bx ((w.alloc (oC (⟨d, t, a, b⟩ : Cm))).alloc (oC (⟨d', t', a', b'⟩ : Cm))) (w.heap.size + 1) (⟨d', t', a', b'⟩ : Cm)) := Lib.hid (bx_second w (⟨d, t, a, b⟩ : Cm) (⟨d', t', a', b'⟩ : Cm))
  clear hf hf' hrd hc hx hr hr2 hxx
  go_enter Try.func5, Try.ntmps5
  go_wp2_with (fail)
  generalize (w.alloc (oC (⟨d, t, a, b⟩ : Cm))).alloc (oC (⟨d', t', a', b'⟩ : Cm)) = w0 at *
  generalize hR : w.heap.size + 1 = R at *
  have HRn := Lib.hid hR; clear hR
  have hq0 : w.heap.size < w0.heap.size := lt_of_block HX0.out
  have hp0 : R < w0.heap.size := lt_of_block HY0.out
  (with_reducible refine (small_any w0).mono ?_); rintro e w1 ⟨rfl, hB1⟩
  have HX1 := Lib.hid (HX0.out.of hB1 hq0)
  have HY1 := Lib.hid (HY0.out.of hB1 hp0)
  have HV1 : Hid (Below w.heap.size w w1) := Lib.hid (HB0.out.trans (hB1.mono (Nat.le_of_lt hq0)))
  have hq1 : w.heap.size < w1.heap.size := lt_of_block HX1.out
  have hp1 : R < w1.heap.size := lt_of_block HY1.out
  clear hB1 hq0 hp0 HX0 HY0 HB0
  obtain ⟨z0, z1, z2, z3⟩ := HX1.out.at
  obtain ⟨y0, y1, y2, y3⟩ := HY1.out.at
  simp only at z0 z1 z2 z3 y0 y1 y2 y3
  go_wp2_with (fail)
  (with_reducible refine (HEn.out _).mono ?_); rintro e w2 ⟨l1, A1, k1, HL1, rfl, HO1, HB2⟩
  rw [HE1.out]
  have HX2 := Lib.hid (HX1.out.of HB2.out hq1)
  have HY2 := Lib.hid (HY1.out.of HB2.out hp1)
  have HV2 : Hid (Below w.heap.size w w2) := Lib.hid (HV1.out.trans (HB2.out.mono (Nat.le_of_lt hq1)))
  have hq2 : w.heap.size < w2.heap.size := lt_of_block HX2.out
  have hp2 : R < w2.heap.size := lt_of_block HY2.out
  clear z0 z1 z2 z3 y0 y1 y2 y3 HX1 HY1 hq1 hp1
  obtain ⟨z0, z1, z2, z3⟩ := HX2.out.at
  obtain ⟨y0, y1, y2, y3⟩ := HY2.out.at
  simp only at z0 z1 z2 z3 y0 y1 y2 y3
  go_wp2_with (fail)
  (with_reducible refine (HEd.out _).mono ?_); rintro e w3 ⟨l2, A2, k2, HL2, rfl, HO2, HB3⟩
  rw [HE2.out]
  rw [← HL1.out] at HDe
  have HLn : Hid (l1.length ≤ 25) := Lib.hid (by rw [HL1.out]; exact en_len HF1.out)
  have HX3 := Lib.hid (HX2.out.of HB3.out hq2)
  have HY3 := Lib.hid (HY2.out.of HB3.out hp2)
  have HV3 : Hid (Below w.heap.size w w3) := Lib.hid (HV2.out.trans (HB3.out.mono (Nat.le_of_lt hq2)))
  clear z0 z1 z2 z3 y0 y1 y2 y3 HX2 HY2 hq2 hp2
  go_wp2_with (fail)
  have HX4 : Hid (Bx w3.drew w.heap.size (⟨d, t, a, b⟩ : Cm)) := HX3
  have HY4 : Hid (Bx w3.drew R (⟨d', t', a', b'⟩ : Cm)) := HY3
  replace HO1 : Hid (Own w3.drew w1.heap.size .u8 5 A1 k1 l1) := Lib.hid (HO1.out.below HB3.out.drew (Nat.le_refl _))
  replace HO2 : Hid (Own w3.drew w2.heap.size .u8 5 A2 k2 l2) := HO2
  have HV4 := Lib.hid HV3.out.drew
  refine wp_region_noPanic ?_
  refine wp_region_held_drew (S := fun w' => Below w3.drew.heap.size w3.drew w') (by kernel_rfl) (Below.refl _ _) (fun _ => ?_)
  clear HX3 HY3 HV3 HV2 HB2 HB3 HV1
  generalize w3.drew = w4 at HX4 HY4 HO1 HO2 HV4 ⊢
  have HQ4 : Hid (w.heap.size < w4.heap.size) := Lib.hid (lt_of_block HX4.out)
  have HP4 : Hid (R < w4.heap.size) := Lib.hid (lt_of_block HY4.out)
  have hbb : (x != x) = false := by simp
  have HQs : Hid (∀ V : World, (binOp .eql 9 (.string (strOfNums l1)) (.string (strOfNums l2))).run Try.prog V = .ok (.bool x) V) := Lib.hid (fun V => eql_str (by rw [HL1.out]; exact en_byt HF1.out) (by rw [HL2.out]; exact en_byt HF2.out) x (by rw [HL1.out, HL2.out]; exact HXi.out) V)
  refine wpAnyH_take (i := 0) (oi := ⟨some 43, Op.move (Operand.tmp 9), 26, _, _, none⟩) (v := ?vy0) rfl (by kernel_rfl) (by kernel_rfl) (by kernel_rfl) (fun _ _ _ h => h) (Or.inl ⟨by rfl, ?hy0⟩) (Below.refl _ _) ?ry0
  case hy0 => (intro wz hSw; go_simp <;> with_reducible rfl)
  (try simp only [Act.put, List.setIfInBounds_toArray, List.set_cons_zero, List.set_cons_succ])
  refine wpAnyH_take (i := 1) (oi := ⟨some 44, Op.binOp BinOp.eql 26 (Operand.tmp 43) (Operand.const (Value.int IntKind.i64 0)) 26, 4, _, _, none⟩) (v := ?vy1) rfl (by kernel_rfl) (by kernel_rfl) (by kernel_rfl) (fun _ _ _ h => h) (Or.inl ⟨by rfl, ?hy1⟩) (Below.refl _ _) ?ry1
  case hy1 => (intro wz hSw; go_simp <;> with_reducible rfl)
  (try simp only [Act.put, List.setIfInBounds_toArray, List.set_cons_zero, List.set_cons_succ])
  refine wpAnyH_take (i := 2) (oi := ⟨some 45, Op.load 23 (Operand.tmp 3), 23, _, _, none⟩) (v := ?vy2) rfl (by kernel_rfl) (by kernel_rfl) (by kernel_rfl) (fun _ _ _ h => h) (Or.inl ⟨by rfl, ?hy2⟩) (Below.refl _ _) ?ry2
  case hy2 => (intro wz hSw; have hc := (HX4.out.of hSw HQ4.out).at; obtain ⟨c0, c1, c2, c3⟩ := hc; simp only at c0 c1 c2 c3; go_simp <;> with_reducible rfl)
  (try simp only [Act.put, List.setIfInBounds_toArray, List.set_cons_zero, List.set_cons_succ])
  refine wpAnyH_ready (rs := [3]) (by kernel_rfl) (by simp) ?_
  refine AllReadyH.cons (o := ⟨some 46, Op.call { callee := Callee.value (Operand.func 9), args := #[Operand.tmp 45], argTypes := #[23] }, 4, _, _, none⟩) rfl (fun K hK => ?_) AllReadyH.nil
  go_simp
  (with_reducible refine (HRi.out _).mono ?_); rintro e w5 ⟨rfl, hB5⟩; have HC5 := Lib.hid hB5; clear hB5
  refine hK.out _ _ HC5.out (fun _ => ?_)
  clear hK K
  (try simp only [Act.put, List.setIfInBounds_toArray, List.set_cons_zero, List.set_cons_succ])
  refine wpAnyH_take (i := 4) (oi := ⟨some 47, Op.binOp BinOp.neq 4 (Operand.tmp 44) (Operand.tmp 46) 4, 4, _, _, none⟩) (v := ?vy4) rfl (by kernel_rfl) (by kernel_rfl) (by kernel_rfl) (fun _ _ _ h => h) (Or.inl ⟨by rfl, ?hy4⟩) HC5.out ?ry4
  case hy4 => (intro wz hSw; go_simp <;> with_reducible rfl)
  (try simp only [Act.put, List.setIfInBounds_toArray, List.set_cons_zero, List.set_cons_succ])
  refine wpAnyH_take (i := 5) (oi := ⟨some 48, Op.move (Operand.tmp 47), 4, _, _, none⟩) (v := ?vy5) rfl (by kernel_rfl) (by kernel_rfl) (by kernel_rfl) (fun _ _ _ h => h) (Or.inl ⟨by rfl, ?hy5⟩) HC5.out ?ry5
  case hy5 => (intro wz hSw; go_simp <;> with_reducible rfl)
  (try simp only [Act.put, List.setIfInBounds_toArray, List.set_cons_zero, List.set_cons_succ])
  refine wpAnyH_take (i := 6) (oi := ⟨some 49, Op.move (Operand.tmp 9), 26, _, _, some (5, false)⟩) (v := ?vy6) rfl (by kernel_rfl) (by kernel_rfl) (by kernel_rfl) (fun _ _ _ h => h) (Or.inl ⟨by rfl, ?hy6⟩) HC5.out ?ry6
  case hy6 => (intro wz hSw; go_simp <;> with_reducible rfl)
  (try simp only [Act.put, List.setIfInBounds_toArray, List.set_cons_zero, List.set_cons_succ])
  refine wpAnyH_take (i := 7) (oi := ⟨some 50, Op.binOp BinOp.eql 26 (Operand.tmp 49) (Operand.const (Value.int IntKind.i64 0)) 26, 4, _, _, some (5, false)⟩) (v := ?vy7) rfl (by kernel_rfl) (by kernel_rfl) (by kernel_rfl) (fun _ _ _ h => h) (Or.inl ⟨by rfl, ?hy7⟩) HC5.out ?ry7
  case hy7 => (intro wz hSw; go_simp <;> with_reducible rfl)
  (try simp only [Act.put, List.setIfInBounds_toArray, List.set_cons_zero, List.set_cons_succ])
  refine wpAnyH_take (i := 8) (oi := ⟨some 51, Op.move (Operand.tmp 50), 4, _, _, some (5, false)⟩) (v := ?vy8) rfl (by kernel_rfl) (by kernel_rfl) (by kernel_rfl) (fun _ _ _ h => h) (Or.inl ⟨by rfl, ?hy8⟩) HC5.out ?ry8
  case hy8 => (intro wz hSw; go_simp <;> with_reducible rfl)
  (try simp only [Act.put, List.setIfInBounds_toArray, List.set_cons_zero, List.set_cons_succ])
  refine wpAnyH_take (i := 9) (oi := ⟨some 52, Op.move (Operand.tmp 11), 26, _, _, some (8, true)⟩) (v := ?vy9) rfl (by kernel_rfl) (by kernel_rfl) (by kernel_rfl) (fun _ _ _ h => h) (Or.inl ⟨by rfl, ?hy9⟩) HC5.out ?ry9
  case hy9 => (intro wz hSw; go_simp <;> with_reducible rfl)
  (try simp only [Act.put, List.setIfInBounds_toArray, List.set_cons_zero, List.set_cons_succ])
  refine wpAnyH_take (i := 10) (oi := ⟨some 53, Op.binOp BinOp.eql 26 (Operand.tmp 52) (Operand.const (Value.int IntKind.i64 0)) 26, 4, _, _, some (8, true)⟩) (v := ?vy10) rfl (by kernel_rfl) (by kernel_rfl) (by kernel_rfl) (fun _ _ _ h => h) (Or.inl ⟨by rfl, ?hy10⟩) HC5.out ?ry10
  case hy10 => (intro wz hSw; go_simp <;> with_reducible rfl)
  (try simp only [Act.put, List.setIfInBounds_toArray, List.set_cons_zero, List.set_cons_succ])
  refine wpAnyH_take (i := 11) (oi := ⟨some 54, Op.pick (Operand.tmp 51) (Operand.tmp 53) (Operand.const (Value.bool false)), 4, _, _, some (5, false)⟩) (v := ?vy11) rfl (by kernel_rfl) (by kernel_rfl) (by kernel_rfl) (fun _ _ _ h => h) (Or.inl ⟨by rfl, ?hy11⟩) HC5.out ?ry11
  case hy11 => (intro wz hSw; go_simp <;> with_reducible rfl)
  (try simp only [Act.put, List.setIfInBounds_toArray, List.set_cons_zero, List.set_cons_succ])
  refine wpAnyH_take (i := 12) (oi := ⟨some 55, Op.move (Operand.tmp 54), 4, _, _, some (5, false)⟩) (v := ?vy12) rfl (by kernel_rfl) (by kernel_rfl) (by kernel_rfl) (fun _ _ _ h => h) (Or.inl ⟨by rfl, ?hy12⟩) HC5.out ?ry12
  case hy12 => (intro wz hSw; go_simp <;> with_reducible rfl)
  (try simp only [Act.put, List.setIfInBounds_toArray, List.set_cons_zero, List.set_cons_succ])
  refine wpAnyH_take (i := 13) (oi := ⟨some 56, Op.move (Operand.tmp 8), 25, _, _, some (12, true)⟩) (v := ?vy13) rfl (by kernel_rfl) (by kernel_rfl) (by kernel_rfl) (fun _ _ _ h => h) (Or.inl ⟨by rfl, ?hy13⟩) HC5.out ?ry13
  case hy13 => (intro wz hSw; go_simp <;> with_reducible rfl)
  (try simp only [Act.put, List.setIfInBounds_toArray, List.set_cons_zero, List.set_cons_succ])
  refine wpAnyH_take (i := 14) (oi := ⟨some 57, Op.convert 25 9 (Operand.tmp 56), 9, _, _, some (12, true)⟩) (v := ?vy14) rfl (by kernel_rfl) (by kernel_rfl) (by kernel_rfl) (fun _ _ _ h => h) (Or.inl ⟨by rfl, ?hy14⟩) HC5.out ?ry14
  case hy14 => (intro wz hSw; have hz := conv k1 (own_rd (HO1.out.below hSw (Nat.le_refl _))); go_simp <;> with_reducible rfl)
  (try simp only [Act.put, List.setIfInBounds_toArray, List.set_cons_zero, List.set_cons_succ])
  refine wpAnyH_take (i := 15) (oi := ⟨some 58, Op.move (Operand.tmp 10), 25, _, _, some (12, true)⟩) (v := ?vy15) rfl (by kernel_rfl) (by kernel_rfl) (by kernel_rfl) (fun _ _ _ h => h) (Or.inl ⟨by rfl, ?hy15⟩) HC5.out ?ry15
  case hy15 => (intro wz hSw; go_simp <;> with_reducible rfl)
  (try simp only [Act.put, List.setIfInBounds_toArray, List.set_cons_zero, List.set_cons_succ])
  refine wpAnyH_take (i := 16) (oi := ⟨some 59, Op.convert 25 9 (Operand.tmp 58), 9, _, _, some (12, true)⟩) (v := ?vy16) rfl (by kernel_rfl) (by kernel_rfl) (by kernel_rfl) (fun _ _ _ h => h) (Or.inl ⟨by rfl, ?hy16⟩) HC5.out ?ry16
  case hy16 => (intro wz hSw; have hz := conv k2 (own_rd (HO2.out.below hSw (Nat.le_refl _))); go_simp <;> with_reducible rfl)
  (try simp only [Act.put, List.setIfInBounds_toArray, List.set_cons_zero, List.set_cons_succ])
  refine wpAnyH_take (i := 17) (oi := ⟨some 60, Op.binOp BinOp.eql 9 (Operand.tmp 57) (Operand.tmp 59) 9, 4, _, _, some (12, true)⟩) (v := .bool x) rfl (by kernel_rfl) (by kernel_rfl) (by kernel_rfl) (fun _ _ _ h => h) (Or.inl ⟨by rfl, ?hy17⟩) HC5.out ?ry17
  case hy17 => (intro wz hSw; apply exec_eql (T := 9) (T2 := 9) (l := .tmp 57) (r := .tmp 59) (h := HQs.out wz); exact rfl; exact rfl; exact rfl; simp [go_sem])
  (try simp only [Act.put, List.setIfInBounds_toArray, List.set_cons_zero, List.set_cons_succ])
  refine wpAnyH_take (i := 18) (oi := ⟨some 61, Op.load 23 (Operand.tmp 3), 23, _, _, some (12, true)⟩) (v := ?vy18) rfl (by kernel_rfl) (by kernel_rfl) (by kernel_rfl) (fun _ _ _ h => h) (Or.inl ⟨by rfl, ?hy18⟩) HC5.out ?ry18
  case hy18 => (intro wz hSw; have hc := (HX4.out.of hSw HQ4.out).at; obtain ⟨c0, c1, c2, c3⟩ := hc; simp only at c0 c1 c2 c3; go_simp <;> with_reducible rfl)
  (try simp only [Act.put, List.setIfInBounds_toArray, List.set_cons_zero, List.set_cons_succ])
  refine wpAnyH_take (i := 19) (oi := ⟨some 62, Op.load 23 (Operand.tmp 4), 23, _, _, some (12, true)⟩) (v := ?vy19) rfl (by kernel_rfl) (by kernel_rfl) (by kernel_rfl) (fun _ _ _ h => h) (Or.inl ⟨by rfl, ?hy19⟩) HC5.out ?ry19
  case hy19 => (intro wz hSw; have hc := (HY4.out.of hSw HP4.out).at; obtain ⟨c0, c1, c2, c3⟩ := hc; simp only at c0 c1 c2 c3; go_simp <;> with_reducible rfl)
  (try simp only [Act.put, List.setIfInBounds_toArray, List.set_cons_zero, List.set_cons_succ])
  refine wpAnyH_take (i := 20) (oi := ⟨some 63, Op.binOp BinOp.eql 23 (Operand.tmp 61) (Operand.tmp 62) 23, 4, _, _, some (12, true)⟩) (v := .bool x) rfl (by kernel_rfl) (by kernel_rfl) (by kernel_rfl) (fun _ _ _ h => h) (Or.inl ⟨by rfl, ?hy20⟩) HC5.out ?ry20
  case hy20 => (intro wz hSw; apply exec_eql (T := 23) (T2 := 23) (l := .tmp 61) (r := .tmp 62) (h := HQc.out wz); exact rfl; exact rfl; exact rfl; simp [go_sem])
  (try simp only [Act.put, List.setIfInBounds_toArray, List.set_cons_zero, List.set_cons_succ])
  refine wpAnyH_take (i := 21) (oi := ⟨some 64, Op.binOp BinOp.neq 4 (Operand.tmp 60) (Operand.tmp 63) 4, 4, _, _, some (12, true)⟩) (v := ?vy21) rfl (by kernel_rfl) (by kernel_rfl) (by kernel_rfl) (fun _ _ _ h => h) (Or.inl ⟨by rfl, ?hy21⟩) HC5.out ?ry21
  case hy21 => (intro wz hSw; go_simp <;> with_reducible rfl)
  (try simp only [Act.put, List.setIfInBounds_toArray, List.set_cons_zero, List.set_cons_succ])
  refine wpAnyH_take (i := 22) (oi := ⟨some 65, Op.pick (Operand.tmp 55) (Operand.tmp 64) (Operand.const (Value.bool false)), 4, _, _, some (5, false)⟩) (v := ?vy22) rfl (by kernel_rfl) (by kernel_rfl) (by kernel_rfl) (fun _ _ _ h => h) (Or.inl ⟨by rfl, ?hy22⟩) HC5.out ?ry22
  case hy22 => (intro wz hSw; go_simp <;> with_reducible rfl)
  (try simp only [Act.put, List.setIfInBounds_toArray, List.set_cons_zero, List.set_cons_succ])
  refine wpAnyH_take (i := 23) (oi := ⟨some 66, Op.pick (Operand.tmp 48) (Operand.const (Value.bool true)) (Operand.tmp 65), 4, _, _, none⟩) (v := ?vy23) rfl (by kernel_rfl) (by kernel_rfl) (by kernel_rfl) (fun _ _ _ h => h) (Or.inl ⟨by rfl, ?hy23⟩) HC5.out ?ry23
  case hy23 => (intro wz hSw; go_simp <;> with_reducible rfl)
  (try simp only [Act.put, List.setIfInBounds_toArray, List.set_cons_zero, List.set_cons_succ])
  refine wpAnyH_done (by kernel_rfl) ?_ _
  refine NoPanic.normal ?_
  have HX5 := Lib.hid (HX4.out.of HC5.out HQ4.out)
  have HV5 := Lib.hid (below_more HV4.out HC5.out)
  have HO5 := Lib.hid (HO1.out.below HC5.out (Nat.le_refl _))
  have hq5 : w.heap.size < w5.heap.size := lt_of_block HX5.out
  clear HX4 HY4 HV4 HO1 HO2 HC5 HQ4 HP4
  have hd6 := decode_any A1 k1 l1 w5 w5.heap.size (own_rd HO5.out) (Nat.le_refl _) (by have := HLn.out; omega) (by rw [HL1.out]; exact en_byt HF1.out) (own_cap HO5.out)
  rw [HDe.out.1, HDe.out.2.1] at hd6
  have HD6 : Hid (Calls Try.prog 13 #[.slice A1 l1.length k1] w5 fun e w' => e = .returned (.tuple #[.agg #[.int .i64 d, .string (strOfNums t), .int .i64 a, .int .i64 b], .int .i64 0]) ∧ Below w5.heap.size w5 w') := Lib.hid hd6
  clear hd6
  go_wp2_with (fail)
  (with_reducible refine HD6.out.mono ?_); rintro e w6 ⟨rfl, hB6⟩
  have HX6 := Lib.hid ((HX5.out.of hB6 hq5).alloc (oC (⟨d, t, a, b⟩ : Cm)))
  have HZ6 : Hid (Bx (w6.alloc (oC (⟨d, t, a, b⟩ : Cm))) w6.heap.size (⟨d, t, a, b⟩ : Cm)) := Lib.hid (heap_alloc_new w6 _)
  have HV6 := Lib.hid ((below_more HV5.out hB6).alloc (below_more HV5.out hB6).size (oC (⟨d, t, a, b⟩ : Cm)))
  have HO6 := Lib.hid ((HO5.out.below hB6 (Nat.le_refl _)).alloc (oC (⟨d, t, a, b⟩ : Cm)))
  have hsz6 : (w6.alloc (oC (⟨d, t, a, b⟩ : Cm))).heap.size = w6.heap.size + 1 := by simp
  have HOe := Lib.hid (Pk.own_empty (w6.alloc (oC (⟨d, t, a, b⟩ : Cm))))
  rw [hsz6] at HOe
  have HSz6 := Lib.hid hsz6
  clear hB6 hsz6
  have HQw : Hid (w.heap.size ≤ w6.heap.size) := Lib.hid (by have h1 := HV6.out.size; have h2 := lt_of_block HZ6.out; have h3 := HSz6.out; have h4 := lt_of_block HX6.out; omega)
  have HQx : Hid (w.heap.size < w6.heap.size + 1) := Lib.hid (by have := HQw.out; omega)
  go_wp2_with (first
    | (at_builtin; refine Pm.wpList_app (K := .u8) (t := 25) (e := 5) Try.underlying25 byte_info rfl (by omega) rfl (.tmp 75) (.tmp 76) rfl (w6.heap.size + 1) (w6.alloc (oC (⟨d, t, a, b⟩ : Cm))).heap.size (some ⟨w6.heap.size + 1, 0, none⟩) 0 [] l1 A1 k1 rfl rfl HOe.out ((own_rd HO6.out).alloc (Nat.le_refl _) _) (by have := HLn.out; simp; omega) (by have := HSz6.out; simp) ?_; intro A7 k7 w7 l7 HL7 HO7 HS7; have HB7 : Hid (Below (w6.heap.size + 1) (w6.alloc (oC (⟨d, t, a, b⟩ : Cm))) w7) := Lib.hid (Pk.below_step (Below.alloc (Below.refl _ _) (by have := HSz6.out; omega) _) HS7.out (fun k hk => by simp [blk] at hk; omega) (by have := HSz6.out; simp)); have HN7 := Lib.hid (bytes_new w7 [0] #[.int .u8 0] 0 rfl); have HLn7 : Hid (l7.length ≤ 25) := Lib.hid (by have h1 := HLn.out; have h2 := congrArg List.length HL7.out; simp at h2; omega))
    | (at_builtin; refine Pm.wpList_app (K := .u8) (t := 25) (e := 5) Try.underlying25 byte_info rfl (by omega) rfl (.tmp 77) (.tmp 78) rfl (w6.heap.size + 1) (w7.heap.size + 1) A7 k7 l7 [0] (some ⟨w7.heap.size, 0, none⟩) 1 rfl rfl (HO7.out.alloc _) HN7.out (by have := HLn7.out; simp; omega) (by have := HB7.out.size; have := HSz6.out; simp; omega) ?_; intro A8 k8 w8 l8 HL8 HO8 HS8))
  have HB8 : Hid (Below (w6.heap.size + 1) w7 w8) := Lib.hid (Pk.below_step (Below.alloc (Below.refl _ _) (by have := HB7.out.size; have := HSz6.out; omega) _) HS8.out (fun k hk => (HO7.out.lt k hk).1) (by have := HB7.out.size; have := HSz6.out; simp; omega))
  have HL78 : Hid (l8 = l1 ++ [0]) := Lib.hid (by rw [HL8.out, HL7.out]; rfl)
  have HB68 := Lib.hid (HB7.out.trans HB8.out)
  have HX8 := Lib.hid (HX6.out.of HB68.out HQx.out)
  have HZ8 := Lib.hid (HZ6.out.of HB68.out (Nat.lt_succ_self _))
  have HV8 := Lib.hid (HV6.out.trans (HB68.out.mono (Nat.le_of_lt HQx.out)))
  have hq8 : w.heap.size < w8.heap.size := lt_of_block HX8.out
  have hz8 : w6.heap.size < w8.heap.size := lt_of_block HZ8.out
  have hd8 := decode_any A8 k8 l8 w8 w8.heap.size (own_rd HO8.out) (Nat.le_refl _) (by have := HLn.out; rw [HL78.out, List.length_append]; simp; omega) (by rw [HL78.out, HL1.out]; exact (en_byt HF1.out).app (byt_one (by omega))) (own_cap HO8.out)
  rw [show deC l8 = zC by rw [HL78.out]; exact HDe.out.2.2.1, show deE l8 = 2 by rw [HL78.out]; exact HDe.out.2.2.2] at hd8
  have HD8 : Hid (Calls Try.prog 13 #[.slice A8 l8.length k8] w8 fun e w' => e = .returned (.tuple #[.agg #[.int .i64 0, .string { data := #[] }, .int .i64 0, .int .i64 0], .int .i64 2]) ∧ Below w8.heap.size w8 w') := Lib.hid hd8
  clear hd8 HX6 HZ6 HV6 HO6 HOe HO7 HS7 HN7 HO8 HS8 HX5 HV5 HO5
  (with_reducible refine HD8.out.mono ?_); rintro e w10 ⟨rfl, hB10⟩
  have HX10 := Lib.hid (HX8.out.of hB10 hq8)
  have HZ10 := Lib.hid (HZ8.out.of hB10 hz8)
  have HV9 := Lib.hid ((below_more HV8.out hB10).alloc (below_more HV8.out hB10).size (.cells #[.int .i64 0, .string { data := #[] }, .int .i64 0, .int .i64 0] 23))
  have hq10 : w.heap.size < w10.heap.size := lt_of_block HX10.out
  have hz10 : w6.heap.size < w10.heap.size := lt_of_block HZ10.out
  clear hB10 hq8 hz8 HX8 HZ8 HV8
  obtain ⟨z0, z1, z2, z3⟩ := HX10.out.at
  obtain ⟨y0, y1, y2, y3⟩ := HZ10.out.at
  simp only at z0 z1 z2 z3 y0 y1 y2 y3
  have hne : ∀ V : World, (binOp .neq 23 (.agg #[.int .i64 d, .string (strOfNums t), .int .i64 a, .int .i64 b]) (.agg #[.int .i64 d, .string (strOfNums t), .int .i64 a, .int .i64 b])).run Try.prog V = .ok (.bool false) V := fun V => neq_cmd (⟨d, t, a, b⟩ : Cm) (⟨d, t, a, b⟩ : Cm) HF1.out.t HF1.out.t true (by simp) V
  have hln : decide ((4096 : Int) < l1.length) = false := by have := HLn.out; simp; omega
  go_wp2_with (fail)
  clear z0 z1 z2 z3 y0 y1 y2 y3 hne
  generalize w10.alloc (.cells #[.int .i64 0, .string { data := #[] }, .int .i64 0, .int .i64 0] 23) = w9 at *
  
  have HR9 := Lib.hid (HR.out.below HV9.out (Nat.le_refl _))
  have hd := decode_any A c l w9 w.heap.size HR9.out HV9.out.size (by omega) HBy.out HC.out
  cases hk : okB l with
  | false =>
    have h1 : deC l = zC := by simp [deC, hk]
    have h2 : deE l = 2 := by simp [deE, hk]
    rw [h1, h2] at hd
    have HD : Hid (Calls Try.prog 13 #[.slice A l.length c] w9 fun e w' => e = .returned (.tuple #[.agg #[.int .i64 0, .string { data := #[] }, .int .i64 0, .int .i64 0], .int .i64 2]) ∧ Below w9.heap.size w9 w') := Lib.hid hd
    clear hd h1 h2 hk
    (with_reducible refine HD.out.mono ?_); rintro e x1 ⟨rfl, hBx⟩
    have HVx := Lib.hid ((below_more HV9.out hBx).alloc (below_more HV9.out hBx).size (.cells #[.int .i64 0, .string { data := #[] }, .int .i64 0, .int .i64 0] 23))
    clear hBx
    go_wp2
    go_ret
    exact ⟨rfl, HVx.out⟩
  | true =>
    obtain ⟨k1', k2'⟩ := ok_parts hk
    have h1 : deC l = say l := by simp [deC, hk]
    have h2 : deE l = 0 := by simp [deE, hk]
    rw [h1, h2] at hd
    have hfs := fc_say HBy.out
    have hts := say_text (l := l)
    generalize say l = s at hd hfs hts k1' k2'
    have HEs : Hid (∀ U, Calls Try.prog 7 #[.agg #[.int .i64 s.d, .string (strOfNums s.t), .int .i64 s.a, .int .i64 s.b]] U (EA U s)) := Lib.hid (fun U => encode_any s hfs (by omega) U)
    have HE0 : Hid (enE s = 0 ∧ enL s = l) := Lib.hid ⟨by simp [enE, k1'], by simp [enL, k1', k2']⟩
    have HD := Lib.hid hd
    clear hd h1 h2 hk k1' k2' hfs hts
    (with_reducible refine HD.out.mono ?_); rintro e x1 ⟨rfl, hBx⟩
    have HVx := Lib.hid ((below_more HV9.out hBx).alloc (below_more HV9.out hBx).size (oC s))
    have HXx : Hid (Bx (x1.alloc (oC s)) x1.heap.size s) := Lib.hid (heap_alloc_new x1 _)
    clear hBx
    go_wp2_with (fail)
    generalize x1.alloc (.cells #[.int .i64 s.d, .string (strOfNums s.t), .int .i64 s.a, .int .i64 s.b] 23) = x2 at *
    (with_reducible refine (HEs.out _).mono ?_); rintro e x3 ⟨ly, Ay, ky, HLy, rfl, HOy, HBz⟩
    rw [HE0.out.1]
    obtain rfl : ly = l := HLy.out.trans HE0.out.2
    have HVz := Lib.hid (HVx.out.trans (HBz.out.mono HVx.out.size))
    have hcv1 := conv ky (own_rd HOy.out)
    have hcv2 := conv c (HR.out.below HVz.out (Nat.le_refl _))
    go_wp2
    go_ret
    exact ⟨rfl, HVz.out⟩

set_option maxRecDepth 100000 in
theorem big (w : World) (d a b : Int) (t : List Int) (d' a' b' : Int) (t' : List Int) (A : Option Addr) (c : Nat) (l : List Int) (hl : (t.length : Int) ≤ 140737488351232) (hl' : (t'.length : Int) ≤ 140737488351232) (hl2 : (l.length : Int) ≤ 140737488351232) (h : (2048 : Int) < (t.length : Int) + t'.length + l.length) :
    Calls Try.prog 5 #[.agg #[.int .i64 d, .string (strOfNums t), .int .i64 a, .int .i64 b], .agg #[.int .i64 d', .string (strOfNums t'), .int .i64 a', .int .i64 b'], .slice A l.length c] w fun e w' => e = .returned (.bool true) ∧ Below w.heap.size w w' := by
  have n1 := size_str t
  have n2 := size_str t'
  have HB0 : Hid (Below w.heap.size w ((w.alloc (oC (⟨d, t, a, b⟩ : Cm))).alloc (oC (⟨d', t', a', b'⟩ : Cm)))) := Lib.hid (by go_grown)
  have HX0 : Hid (Bx ((w.alloc (oC (⟨d, t, a, b⟩ : Cm))).alloc (oC (⟨d', t', a', b'⟩ : Cm))) w.heap.size (⟨d, t, a, b⟩ : Cm)) := Lib.hid (Bx.alloc (heap_alloc_new w _) _)
  have HY0 : Hid (Bx ((w.alloc (oC (⟨d, t, a, b⟩ : Cm))).alloc (oC (⟨d', t', a', b'⟩ : Cm))) (w.heap.size + 1) (⟨d', t', a', b'⟩ : Cm)) := Lib.hid (bx_second w (⟨d, t, a, b⟩ : Cm) (⟨d', t', a', b'⟩ : Cm))
  go_enter Try.func5, Try.ntmps5
  go_wp2_with (fail)
  generalize (w.alloc (oC (⟨d, t, a, b⟩ : Cm))).alloc (oC (⟨d', t', a', b'⟩ : Cm)) = w0 at *
  generalize hR : w.heap.size + 1 = R at *
  have HRn := Lib.hid hR; clear hR
  have hq0 : w.heap.size < w0.heap.size := lt_of_block HX0.out
  have hp0 : R < w0.heap.size := lt_of_block HY0.out
  (with_reducible refine (small_any w0).mono ?_); rintro e w1 ⟨rfl, hB1⟩
  have HX1 := Lib.hid (HX0.out.of hB1 hq0)
  have HY1 := Lib.hid (HY0.out.of hB1 hp0)
  have HV1 : Hid (Below w.heap.size w w1) := Lib.hid (HB0.out.trans (hB1.mono (Nat.le_of_lt hq0)))
  clear hB1
  obtain ⟨z0, z1, z2, z3⟩ := HX1.out.at
  obtain ⟨y0, y1, y2, y3⟩ := HY1.out.at
  simp only at z0 z1 z2 z3 y0 y1 y2 y3
  go_wp2
  go_ret
  exact ⟨rfl, HV1.out⟩

theorem walk (w : World) (c : Cm) (hf : FC c) (hl : (c.t.length : Int) ≤ 140737488351232) (d : Cm) (hf' : FC d) (hl' : (d.t.length : Int) ≤ 140737488351232) (A : Option Addr) (k : Nat) (l : List Int) (hr : Rd .u8 w w.heap.size A l) (hc : l.length ≤ k) (hl2 : (l.length : Int) ≤ 140737488351232) (hx : Byt l) :
    Calls Try.prog 5 #[cv c, cv d, .slice A l.length k] w fun e w' => e = .returned (.bool true) ∧ Below w.heap.size w w' := by
  obtain ⟨cd, ct, ca, cb⟩ := c
  obtain ⟨dd, dt, da, db⟩ := d
  simp only at hl hl'
  by_cases h : (2048 : Int) < (ct.length : Int) + dt.length + l.length
  · exact big w cd ca cb ct dd da db dt A k l hl hl' hl2 h
  · have h' : (ct.length : Int) + dt.length + l.length ≤ 2048 := by omega
    cases hr1 : rtB ⟨cd, ct, ca, cb⟩ with
    | false => exact wayF w cd ca cb ct dd da db dt hf hf' A k l hr hc hx h' hr1
    | true =>
      cases hr2 : rtB ⟨dd, dt, da, db⟩ with
      | false => exact wayTF w cd ca cb ct dd da db dt hf hf' A k l hr hc hx h' hr1 hr2
      | true => exact wayTT w cd ca cb ct dd da db dt hf hf' A k l hr hc hx h' hr1 hr2


set_option maxRecDepth 100000 in
theorem lifted (os : Os) (started : os.Started) (H : Type) (enc : TypeId × Value → H) :
    ReturnsInHanded {} Try.checked os 5 .any (Rows.commandBackSpec.pre6 enc Try.prog Try.f5 Rows.commandBackRow.domain false) (Rows.commandBackSpec.post enc Try.prog Try.f5 false true false false) := by
  refine returnsInHanded_of_change_sized (C := Try.checked) own started (by kernel_rfl) Try.func5
    (ChangeSpec.witness6 (enc := enc) (C := Try.checked) false ⟨#[], #[.agg #[.int .i64 0, .string ⟨#[]⟩, .int .i64 0, .int .i64 0], .agg #[.int .i64 0, .string ⟨#[]⟩, .int .i64 0, .int .i64 0], .slice none 0 0], []⟩ 8 (by kernel_rfl) (by kernel_rfl) (by kernel_rfl) (by kernel_rfl)) ?_
  intro W base args ds gs before hval0 hW hcnd hsz0 _
  have hval : ∀ (j : Nat) t v, Try.f5.params[j]? = some t → args[j]? = some v → Value.okWide Try.prog W .any base t v := hval0
  have hW' := hW
  obtain ⟨p, q, hA0, hV, rfl, hfz, hnd⟩ := hW
  have hA : DataW.TrodAll enc Try.prog W 0 (fun _ => true) true Try.f5.params.toList args.toList ds p := hA0
  rw [Try.params5] at hA hval
  obtain ⟨v0, vs0, d0, ds0, p0, q0, hargs, rfl, rfl, h0, r0⟩ := trodAll_cons hA
  obtain ⟨v1, vs1, d1, ds1, p1, q1, rfl, rfl, rfl, h1, r1⟩ := trodAll_cons r0
  obtain ⟨v2, vs2, d2, ds2, p2, q2, rfl, rfl, rfl, h2, r2⟩ := trodAll_cons r1
  obtain ⟨rfl, rfl, rfl⟩ := trodAll_nil r2
  obtain rfl : args = #[v0, v1, v2] := by cases args; simp_all
  obtain ⟨rfl, rfl⟩ := trodVars_none hV
  clear hA0 hval0
  have hsz : (DataW.weightsEach Try.prog [23, 23, 25] [d0, d1, d2]).all (· ≤ reachBytes) = true := hsz0
  clear hsz0
  have hlt0 : ∀ x ∈ p0, x.block < W.heap.size := fun x hx => hW'.lt x (by simp [hx])
  have hk0 := h0
  obtain ⟨c0, rfl, hf0, hl0, hp0⟩ := Cop.viewC (j := 0) (hval 0 23 v0 rfl rfl) h0 hsz rfl rfl
  have hlt1 : ∀ x ∈ p1, x.block < W.heap.size := fun x hx => hW'.lt x (by simp [hx])
  have hk1 := h1
  obtain ⟨c1, rfl, hf1, hl1, hp1⟩ := Cop.viewC (j := 1) (hval 1 23 v1 rfl rfl) h1 hsz rfl rfl
  have z2 := fun A n c => Cop.lenB (A := A) (n := n) (c := c) (j := 2) (hval 2 25 v2 rfl rfl) h2 hsz rfl rfl
  have hlt2 : ∀ x ∈ p2, x.block < W.heap.size := fun x hx => hW'.lt x (by simp [hx])
  have hk2 := h2
  obtain ⟨A2, c2, l2, rfl, hr2, hc2, hl2, hx2⟩ := Pop.viewB (hval 2 25 v2 rfl rfl) h2 hlt2
  simp only [List.append_nil] at hW'
  refine (walk W c0 hf0 hl0 c1 hf1 hl1 A2 c2 l2 hr2 hc2 (z2 _ _ _ rfl) hx2).mono fun e W' ⟨he, hg⟩ => ?_
  subst he
  exact ⟨_, rfl, _, _, _, [], _, [], hW', (trodAll_cons_mk (shut_bool Try.underlying4 _) trodAll_mk0), (trodAll_cons_mk (Below.trod Pop.laidOut (by kernel_rfl) (of_decide_eq_true (by kernel_rfl)) hk0 hg hlt0) (trodAll_cons_mk (Below.trod Pop.laidOut (by kernel_rfl) (of_decide_eq_true (by kernel_rfl)) hk1 hg hlt1) (trodAll_cons_mk (Below.trod Pop.laidOut (by kernel_rfl) (of_decide_eq_true (by kernel_rfl)) hk2 hg hlt2) trodAll_mk0))), rfl, hg.frame _, fun h => by cases h⟩

theorem over : Rows.commandBackRow.holds Try.pinned (OpenSpec.ofChange Rows.commandBackSpec) :=
  OpenClaim.holds_of_wide 5 Try.f5 rfl rfl rfl rfl rfl rfl rfl ⟨rfl, rfl, rfl, rfl, rfl⟩ rfl rfl rfl rfl rfl (by kernel_rfl) Try.func5 (by kernel_rfl)
    (of_decide_eq_true (by kernel_rfl)) (by unfold Func.isWrapper; first | (rw [if_pos (by decide +kernel)]; kernel_rfl) | (rw [if_neg (by decide +kernel)]; exact ⟨rfl, rfl⟩))
    (fun os started H enc _ => lifted os started H enc)

/-- The given statement. -/
theorem proved : Rows.CommandBackSaid :=
  over
#print axioms proved
end Go.Proofs.Yteiknfhoggoapaa.commandBack
