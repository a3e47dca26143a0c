/-
  The law CommandWrites: which commands are right, which texts are names, and what load a command is, is what the document says, for all commands and texts of at most 2048 bytes together; no condition beyond the types'.
-/
import Derived.Test.YteiknfhoggoapaaSma
import Derived.Test.YteiknfhoggoapaaCop
import Derived.WalkKit
import Derived.ProofKit
import Derived.OpenShut
namespace Go.Proofs.Yteiknfhoggoapaa.commandWrites
open Go.ChangeShapes Go.WideShapes Go.ChangeAt Go.RowKit Con Pm Mth
set_option linter.unusedVariables false

theorem own : ownKnob Try.prog.godebug = none := by kernel_rfl

theorem size_str (t : List Int) : (strOfNums t).size = t.length := strOfNums_size t
set_option maxRecDepth 100000 in
theorem big (w : World) (c : Cm) (s : List Int) (hl : (c.t.length : Int) ≤ 140737488351232) (hs : (s.length : Int) ≤ 140737488351232) (h : (2048 : Int) < c.t.length + s.length) :
    Calls Try.prog 3 #[cv c, .string (strOfNums s)] w fun e w' => e = .returned (.bool true) ∧ Below w.heap.size w w' := by
  obtain ⟨d, t, a, b⟩ := c
  simp only at hl h
  have e1 := size_str t
  have e2 := size_str s
  have HB0 : Hid (Below w.heap.size w (w.alloc (oC ⟨d, t, a, b⟩))) := Lib.hid (by go_grown)
  have HX0 : Hid (Bx (w.alloc (oC ⟨d, t, a, b⟩)) w.heap.size ⟨d, t, a, b⟩) := Lib.hid (heap_alloc_new w _)
  go_enter Try.func3, Try.ntmps3
  go_wp2_with (fail)
  generalize w.alloc (oC ⟨d, t, a, b⟩) = w0 at *
  have hq0 : w.heap.size < w0.heap.size := lt_of_block HX0.out
  (with_reducible refine (small_any w0).mono ?_); rintro e w1 ⟨rfl, hB1⟩
  have HX1 := Lib.hid (HX0.out.of hB1 hq0)
  have HV1 : Hid (Below w.heap.size w w1) := Lib.hid (HB0.out.trans (hB1.mono (Nat.le_of_lt hq0)))
  clear hB1
  obtain ⟨z0, z1, z2, z3⟩ := HX1.out.at
  simp only at z0 z1 z2 z3
  go_wp2
  go_ret
  exact ⟨rfl, HV1.out⟩
set_option maxRecDepth 100000 in
set_option maxHeartbeats 4000000 in
theorem inner (w : World) (c : Cm) (s : List Int) (hf : FC c) (hb : Byt s) (h : (c.t.length : Int) + s.length ≤ 2048) :
    Calls Try.prog 3 #[cv c, .string (strOfNums s)] w fun e w' => e = .returned (.bool true) ∧ Below w.heap.size w w' := by
  obtain ⟨d, t, a, b⟩ := c
  simp only at h
  have HEn : Hid (∀ V, Calls Try.prog 7 #[.agg #[.int .i64 d, .string (strOfNums t), .int .i64 a, .int .i64 b]] V (EA V ⟨d, t, a, b⟩)) := Lib.hid (fun V => encode_any _ hf (by show ((t.length : Nat) : Int) ≤ 100000; omega) V)
  have HEr : Hid (∀ V, Calls Try.prog 8 #[.agg #[.int .i64 d, .string (strOfNums t), .int .i64 a, .int .i64 b]] V (EA V ⟨d, t, a, b⟩)) := Lib.hid (fun V => rencode_any _ hf (by show ((t.length : Nat) : Int) ≤ 100000; omega) V)
  generalize hR : rtB ⟨d, t, a, b⟩ = rb
  have HRi : Hid (∀ V : World, Calls Try.prog 9 #[.agg #[.int .i64 d, .string (strOfNums t), .int .i64 a, .int .i64 b]] V fun e w' => e = .returned (.bool rb) ∧ Below V.heap.size V w') := Lib.hid (fun V => by rw [← hR]; exact right_any _ hf (by show ((t.length : Nat) : Int) ≤ 10000000; omega) V)
  have HRr : Hid (∀ V : World, Calls Try.prog 10 #[.agg #[.int .i64 d, .string (strOfNums t), .int .i64 a, .int .i64 b]] V fun e w' => e = .returned (.bool rb) ∧ Below V.heap.size V w') := Lib.hid (fun V => by rw [← hR]; exact rright_any _ hf (by show ((t.length : Nat) : Int) ≤ 10000000; omega) V)
  have HNm := Lib.hid (fun V => name_any s hb (by omega) V)
  have HNr := Lib.hid (fun V => rname_any s hb (by omega) V)
  have e1 := size_str t
  have e2 := size_str s
  have hn : decide ((2048 : Int) < (t.length : Int) + s.length) = false := by simpa using h
  have HB0 : Hid (Below w.heap.size w (w.alloc (oC ⟨d, t, a, b⟩))) := Lib.hid (by go_grown)
  have HX0 : Hid (Bx (w.alloc (oC ⟨d, t, a, b⟩)) w.heap.size ⟨d, t, a, b⟩) := Lib.hid (heap_alloc_new w _)
  clear hf hb hR
  go_enter Try.func3, Try.ntmps3
  go_wp2_with (fail)
  generalize w.alloc (oC ⟨d, t, a, b⟩) = w0 at *
  have hq0 : w.heap.size < w0.heap.size := lt_of_block HX0.out
  (with_reducible refine (small_any w0).mono ?_); rintro e w1 ⟨rfl, hB1⟩
  have HX1 := Lib.hid (HX0.out.of hB1 hq0)
  have HV1 : Hid (Below w.heap.size w w1) := Lib.hid (HB0.out.trans (hB1.mono (Nat.le_of_lt hq0)))
  clear hB1
  obtain ⟨z0, z1, z2, z3⟩ := HX1.out.at
  simp only at z0 z1 z2 z3
  go_wp2_with (fail)
  (with_reducible refine (HEn.out _).mono ?_); rintro e w2 ⟨l1, A1, c1, HL1, rfl, HO1, HB2⟩
  have hq1 : w.heap.size < w1.heap.size := lt_of_block HX1.out
  have HX2 := Lib.hid (HX1.out.of HB2.out hq1)
  have HV2 : Hid (Below w.heap.size w w2) := Lib.hid (HV1.out.trans (HB2.out.mono (Nat.le_of_lt hq1)))
  clear z0 z1 z2 z3
  obtain ⟨z0, z1, z2, z3⟩ := HX2.out.at
  simp only at z0 z1 z2 z3
  generalize hE : enE ⟨d, t, a, b⟩ = er
  have HE := Lib.hid hE; clear hE
  go_wp2_with (fail)
  (with_reducible refine (HEr.out _).mono ?_); rintro e w3 ⟨l2, A2, c2, HL2, rfl, HO2, HB3⟩
  have hq2 : w.heap.size < w2.heap.size := lt_of_block HX2.out
  have HX3 := Lib.hid (HX2.out.of HB3.out hq2)
  have HV3 : Hid (Below w.heap.size w w3) := Lib.hid (HV2.out.trans (HB3.out.mono (Nat.le_of_lt hq2)))
  clear z0 z1 z2 z3
  rw [HE.out]
  obtain rfl : l2 = l1 := HL2.out.trans HL1.out.symm
  go_wp2_with (fail)
  have HX4 : Hid (Bx w3.drew w.heap.size ⟨d, t, a, b⟩) := HX3
  have HO1d : Hid (Own w3.drew w1.heap.size .u8 5 A1 c1 l2) := Lib.hid (HO1.out.below HB3.out.drew (Nat.le_refl _))
  have HO2d : Hid (Own w3.drew w2.heap.size .u8 5 A2 c2 l2) := HO2
  have HV4 := Lib.hid HV3.out.drew
  refine wp_region_noPanic ?_
  refine wp_region_held_drew (S := fun w' => Below w3.drew.heap.size w3.drew w') (by kernel_rfl) (Below.refl _ _) (fun _ => ?_)
  generalize w3.drew = w4 at HX4 HO1d HO2d HV4 ⊢
  have HQ4 : Hid (w.heap.size < w4.heap.size) := Lib.hid (lt_of_block HX4.out)
  have HC4 := Lib.hid (Below.refl w4.heap.size w4)
  refine wpAnyH_take (i := 0) (oi := ⟨some 29, Op.move (Operand.tmp 5), 4, _, _, none⟩) (v := ?vy0) rfl (by kernel_rfl) (by kernel_rfl) (by kernel_rfl) (fun _ _ _ h => h) (Or.inl ⟨by rfl, ?hy0⟩) HC4.out ?ry0
  case hy0 => (intro wz hSw; go_simp <;> with_reducible rfl)
  (try simp only [Act.put, List.setIfInBounds_toArray, List.set_cons_zero, List.set_cons_succ])
  refine wpAnyH_take (i := 1) (oi := ⟨some 30, Op.move (Operand.tmp 29), 4, _, _, none⟩) (v := ?vy1) rfl (by kernel_rfl) (by kernel_rfl) (by kernel_rfl) (fun _ _ _ h => h) (Or.inl ⟨by rfl, ?hy1⟩) HC4.out ?ry1
  case hy1 => (intro wz hSw; go_simp <;> with_reducible rfl)
  (try simp only [Act.put, List.setIfInBounds_toArray, List.set_cons_zero, List.set_cons_succ])
  refine wpAnyH_take (i := 2) (oi := ⟨some 31, Op.move (Operand.tmp 6), 25, _, _, some (1, true)⟩) (v := ?vy2) rfl (by kernel_rfl) (by kernel_rfl) (by kernel_rfl) (fun _ _ _ h => h) (Or.inl ⟨by rfl, ?hy2⟩) HC4.out ?ry2
  case hy2 => (intro wz hSw; go_simp <;> with_reducible rfl)
  (try simp only [Act.put, List.setIfInBounds_toArray, List.set_cons_zero, List.set_cons_succ])
  refine wpAnyH_take (i := 3) (oi := ⟨some 32, Op.convert 25 9 (Operand.tmp 31), 9, _, _, some (1, true)⟩) (v := ?vy3) rfl (by kernel_rfl) (by kernel_rfl) (by kernel_rfl) (fun _ _ _ h => h) (Or.inl ⟨by rfl, ?hy3⟩) HC4.out ?ry3
  case hy3 => (intro wz hSw; have hz := conv c1 (own_rd (HO1d.out.below hSw (Nat.le_refl _))); go_simp <;> with_reducible rfl)
  (try simp only [Act.put, List.setIfInBounds_toArray, List.set_cons_zero, List.set_cons_succ])
  refine wpAnyH_take (i := 4) (oi := ⟨some 33, Op.move (Operand.tmp 8), 25, _, _, some (1, true)⟩) (v := ?vy4) rfl (by kernel_rfl) (by kernel_rfl) (by kernel_rfl) (fun _ _ _ h => h) (Or.inl ⟨by rfl, ?hy4⟩) HC4.out ?ry4
  case hy4 => (intro wz hSw; go_simp <;> with_reducible rfl)
  (try simp only [Act.put, List.setIfInBounds_toArray, List.set_cons_zero, List.set_cons_succ])
  refine wpAnyH_take (i := 5) (oi := ⟨some 34, Op.convert 25 9 (Operand.tmp 33), 9, _, _, some (1, true)⟩) (v := ?vy5) rfl (by kernel_rfl) (by kernel_rfl) (by kernel_rfl) (fun _ _ _ h => h) (Or.inl ⟨by rfl, ?hy5⟩) HC4.out ?ry5
  case hy5 => (intro wz hSw; have hz := conv c2 (own_rd (HO2d.out.below hSw (Nat.le_refl _))); go_simp <;> with_reducible rfl)
  (try simp only [Act.put, List.setIfInBounds_toArray, List.set_cons_zero, List.set_cons_succ])
  refine wpAnyH_take (i := 6) (oi := ⟨some 35, Op.binOp BinOp.eql 9 (Operand.tmp 32) (Operand.tmp 34) 9, 4, _, _, some (1, true)⟩) (v := ?vy6) rfl (by kernel_rfl) (by kernel_rfl) (by kernel_rfl) (fun _ _ _ h => h) (Or.inl ⟨by rfl, ?hy6⟩) HC4.out ?ry6
  case hy6 => (intro wz hSw; go_simp <;> with_reducible rfl)
  (try simp only [Act.put, List.setIfInBounds_toArray, List.set_cons_zero, List.set_cons_succ])
  refine wpAnyH_take (i := 7) (oi := ⟨some 36, Op.pick (Operand.tmp 30) (Operand.tmp 35) (Operand.const (Value.bool false)), 4, _, _, none⟩) (v := ?vy7) rfl (by kernel_rfl) (by kernel_rfl) (by kernel_rfl) (fun _ _ _ h => h) (Or.inl ⟨by rfl, ?hy7⟩) HC4.out ?ry7
  case hy7 => (intro wz hSw; go_simp <;> with_reducible rfl)
  (try simp only [Act.put, List.setIfInBounds_toArray, List.set_cons_zero, List.set_cons_succ])
  refine wpAnyH_take (i := 8) (oi := ⟨some 37, Op.move (Operand.tmp 36), 4, _, _, none⟩) (v := ?vy8) rfl (by kernel_rfl) (by kernel_rfl) (by kernel_rfl) (fun _ _ _ h => h) (Or.inl ⟨by rfl, ?hy8⟩) HC4.out ?ry8
  case hy8 => (intro wz hSw; go_simp <;> with_reducible rfl)
  (try simp only [Act.put, List.setIfInBounds_toArray, List.set_cons_zero, List.set_cons_succ])
  refine wpAnyH_take (i := 9) (oi := ⟨some 38, Op.move (Operand.tmp 7), 26, _, _, some (8, true)⟩) (v := ?vy9) rfl (by kernel_rfl) (by kernel_rfl) (by kernel_rfl) (fun _ _ _ h => h) (Or.inl ⟨by rfl, ?hy9⟩) HC4.out ?ry9
  case hy9 => (intro wz hSw; go_simp <;> with_reducible rfl)
  (try simp only [Act.put, List.setIfInBounds_toArray, List.set_cons_zero, List.set_cons_succ])
  refine wpAnyH_take (i := 10) (oi := ⟨some 39, Op.move (Operand.tmp 9), 26, _, _, some (8, true)⟩) (v := ?vy10) rfl (by kernel_rfl) (by kernel_rfl) (by kernel_rfl) (fun _ _ _ h => h) (Or.inl ⟨by rfl, ?hy10⟩) HC4.out ?ry10
  case hy10 => (intro wz hSw; go_simp <;> with_reducible rfl)
  (try simp only [Act.put, List.setIfInBounds_toArray, List.set_cons_zero, List.set_cons_succ])
  refine wpAnyH_take (i := 11) (oi := ⟨some 40, Op.binOp BinOp.eql 26 (Operand.tmp 38) (Operand.tmp 39) 26, 4, _, _, some (8, true)⟩) (v := ?vy11) rfl (by kernel_rfl) (by kernel_rfl) (by kernel_rfl) (fun _ _ _ h => h) (Or.inl ⟨by rfl, ?hy11⟩) HC4.out ?ry11
  case hy11 => (intro wz hSw; go_simp <;> with_reducible rfl)
  (try simp only [Act.put, List.setIfInBounds_toArray, List.set_cons_zero, List.set_cons_succ])
  refine wpAnyH_take (i := 12) (oi := ⟨some 41, Op.pick (Operand.tmp 37) (Operand.tmp 40) (Operand.const (Value.bool false)), 4, _, _, none⟩) (v := ?vy12) rfl (by kernel_rfl) (by kernel_rfl) (by kernel_rfl) (fun _ _ _ h => h) (Or.inl ⟨by rfl, ?hy12⟩) HC4.out ?ry12
  case hy12 => (intro wz hSw; go_simp <;> with_reducible rfl)
  (try simp only [Act.put, List.setIfInBounds_toArray, List.set_cons_zero, List.set_cons_succ])
  refine wpAnyH_take (i := 13) (oi := ⟨some 42, Op.move (Operand.tmp 41), 4, _, _, none⟩) (v := ?vy13) rfl (by kernel_rfl) (by kernel_rfl) (by kernel_rfl) (fun _ _ _ h => h) (Or.inl ⟨by rfl, ?hy13⟩) HC4.out ?ry13
  case hy13 => (intro wz hSw; go_simp <;> with_reducible rfl)
  (try simp only [Act.put, List.setIfInBounds_toArray, List.set_cons_zero, List.set_cons_succ])
  refine wpAnyH_take (i := 14) (oi := ⟨some 43, Op.load 23 (Operand.tmp 2), 23, _, _, some (13, true)⟩) (v := ?vy14) rfl (by kernel_rfl) (by kernel_rfl) (by kernel_rfl) (fun _ _ _ h => h) (Or.inl ⟨by rfl, ?hy14⟩) HC4.out ?ry14
  case hy14 => (intro wz hSw; have hc := (HX4.out.of hSw HQ4.out).at; obtain ⟨c0, c1, c2, c3⟩ := hc; simp only at c0 c1 c2 c3; go_simp <;> with_reducible rfl)
  (try simp only [Act.put, List.setIfInBounds_toArray, List.set_cons_zero, List.set_cons_succ])
  refine wpAnyH_take (i := 16) (oi := ⟨some 45, Op.load 23 (Operand.tmp 2), 23, _, _, some (13, true)⟩) (v := ?vy16) rfl (by kernel_rfl) (by kernel_rfl) (by kernel_rfl) (fun _ _ _ h => h) (Or.inl ⟨by rfl, ?hy16⟩) HC4.out ?ry16
  case hy16 => (intro wz hSw; have hc := (HX4.out.of hSw HQ4.out).at; obtain ⟨c0, c1, c2, c3⟩ := hc; simp only at c0 c1 c2 c3; go_simp <;> with_reducible rfl)
  (try simp only [Act.put, List.setIfInBounds_toArray, List.set_cons_zero, List.set_cons_succ])
  refine wpAnyH_ready (rs := [15]) (by kernel_rfl) (by simp) ?_
  refine AllReadyH.cons (o := ⟨some 44, Op.call { callee := Callee.value (Operand.func 9), args := #[Operand.tmp 43], argTypes := #[23] }, 4, _, _, some (13, true)⟩) rfl (fun K hK => ?_) AllReadyH.nil
  go_simp
  (with_reducible refine (HRi.out _).mono ?_); rintro e v5 ⟨rfl, hb5⟩; have HC5 := Lib.hid (below_more HC4.out hb5); clear hb5
  refine hK.out _ _ HC5.out (fun _ => ?_)
  clear hK K
  (try simp only [Act.put, List.setIfInBounds_toArray, List.set_cons_zero, List.set_cons_succ])
  refine wpAnyH_ready (rs := [17]) (by kernel_rfl) (by simp) ?_
  refine AllReadyH.cons (o := ⟨some 46, Op.call { callee := Callee.value (Operand.func 10), args := #[Operand.tmp 45], argTypes := #[23] }, 4, _, _, some (13, true)⟩) rfl (fun K hK => ?_) AllReadyH.nil
  go_simp
  (with_reducible refine (HRr.out _).mono ?_); rintro e v6 ⟨rfl, hb6⟩; have HC6 := Lib.hid (below_more HC5.out hb6); clear hb6
  refine hK.out _ _ HC6.out (fun _ => ?_)
  clear hK K
  (try simp only [Act.put, List.setIfInBounds_toArray, List.set_cons_zero, List.set_cons_succ])
  refine wpAnyH_take (i := 18) (oi := ⟨some 47, Op.binOp BinOp.eql 4 (Operand.tmp 44) (Operand.tmp 46) 4, 4, _, _, some (13, true)⟩) (v := ?vy18) rfl (by kernel_rfl) (by kernel_rfl) (by kernel_rfl) (fun _ _ _ h => h) (Or.inl ⟨by rfl, ?hy18⟩) HC6.out ?ry18
  case hy18 => (intro wz hSw; go_simp <;> with_reducible rfl)
  (try simp only [Act.put, List.setIfInBounds_toArray, List.set_cons_zero, List.set_cons_succ])
  refine wpAnyH_take (i := 19) (oi := ⟨some 48, Op.pick (Operand.tmp 42) (Operand.tmp 47) (Operand.const (Value.bool false)), 4, _, _, none⟩) (v := ?vy19) rfl (by kernel_rfl) (by kernel_rfl) (by kernel_rfl) (fun _ _ _ h => h) (Or.inl ⟨by rfl, ?hy19⟩) HC6.out ?ry19
  case hy19 => (intro wz hSw; go_simp <;> with_reducible rfl)
  (try simp only [Act.put, List.setIfInBounds_toArray, List.set_cons_zero, List.set_cons_succ])
  refine wpAnyH_take (i := 20) (oi := ⟨some 49, Op.move (Operand.tmp 48), 4, _, _, none⟩) (v := ?vy20) rfl (by kernel_rfl) (by kernel_rfl) (by kernel_rfl) (fun _ _ _ h => h) (Or.inl ⟨by rfl, ?hy20⟩) HC6.out ?ry20
  case hy20 => (intro wz hSw; go_simp <;> with_reducible rfl)
  (try simp only [Act.put, List.setIfInBounds_toArray, List.set_cons_zero, List.set_cons_succ])
  refine wpAnyH_take (i := 21) (oi := ⟨some 50, Op.move (Operand.tmp 1), 9, _, _, some (20, true)⟩) (v := ?vy21) rfl (by kernel_rfl) (by kernel_rfl) (by kernel_rfl) (fun _ _ _ h => h) (Or.inl ⟨by rfl, ?hy21⟩) HC6.out ?ry21
  case hy21 => (intro wz hSw; go_simp <;> with_reducible rfl)
  (try simp only [Act.put, List.setIfInBounds_toArray, List.set_cons_zero, List.set_cons_succ])
  refine wpAnyH_take (i := 23) (oi := ⟨some 52, Op.move (Operand.tmp 1), 9, _, _, some (20, true)⟩) (v := ?vy23) rfl (by kernel_rfl) (by kernel_rfl) (by kernel_rfl) (fun _ _ _ h => h) (Or.inl ⟨by rfl, ?hy23⟩) HC6.out ?ry23
  case hy23 => (intro wz hSw; go_simp <;> with_reducible rfl)
  (try simp only [Act.put, List.setIfInBounds_toArray, List.set_cons_zero, List.set_cons_succ])
  refine wpAnyH_ready (rs := [22]) (by kernel_rfl) (by simp) ?_
  refine AllReadyH.cons (o := ⟨some 51, Op.call { callee := Callee.value (Operand.func 11), args := #[Operand.tmp 50], argTypes := #[9] }, 4, _, _, some (20, true)⟩) rfl (fun K hK => ?_) AllReadyH.nil
  go_simp
  (with_reducible refine (HNm.out _).mono ?_); rintro e v7 ⟨rfl, rfl⟩
  refine hK.out _ _ HC6.out (fun _ => ?_)
  clear hK K
  (try simp only [Act.put, List.setIfInBounds_toArray, List.set_cons_zero, List.set_cons_succ])
  refine wpAnyH_ready (rs := [24]) (by kernel_rfl) (by simp) ?_
  refine AllReadyH.cons (o := ⟨some 53, Op.call { callee := Callee.value (Operand.func 12), args := #[Operand.tmp 52], argTypes := #[9] }, 4, _, _, some (20, true)⟩) rfl (fun K hK => ?_) AllReadyH.nil
  go_simp
  (with_reducible refine (HNr.out _).mono ?_); rintro e v8 ⟨rfl, rfl⟩
  refine hK.out _ _ HC6.out (fun _ => ?_)
  clear hK K
  (try simp only [Act.put, List.setIfInBounds_toArray, List.set_cons_zero, List.set_cons_succ])
  refine wpAnyH_take (i := 25) (oi := ⟨some 54, Op.binOp BinOp.eql 4 (Operand.tmp 51) (Operand.tmp 53) 4, 4, _, _, some (20, true)⟩) (v := ?vy25) rfl (by kernel_rfl) (by kernel_rfl) (by kernel_rfl) (fun _ _ _ h => h) (Or.inl ⟨by rfl, ?hy25⟩) HC6.out ?ry25
  case hy25 => (intro wz hSw; go_simp <;> with_reducible rfl)
  (try simp only [Act.put, List.setIfInBounds_toArray, List.set_cons_zero, List.set_cons_succ])
  refine wpAnyH_take (i := 26) (oi := ⟨some 55, Op.pick (Operand.tmp 49) (Operand.tmp 54) (Operand.const (Value.bool false)), 4, _, _, none⟩) (v := ?vy26) rfl (by kernel_rfl) (by kernel_rfl) (by kernel_rfl) (fun _ _ _ h => h) (Or.inl ⟨by rfl, ?hy26⟩) HC6.out ?ry26
  case hy26 => (intro wz hSw; go_simp <;> with_reducible rfl)
  (try simp only [Act.put, List.setIfInBounds_toArray, List.set_cons_zero, List.set_cons_succ])
  refine wpAnyH_take (i := 27) (oi := ⟨some 4, Op.assign (Operand.tmp 55), 4, _, _, none⟩) (v := ?vy27) rfl (by kernel_rfl) (by kernel_rfl) (by kernel_rfl) (fun _ _ _ h => h) (Or.inl ⟨by rfl, ?hy27⟩) HC6.out ?ry27
  case hy27 => (intro wz hSw; go_simp <;> with_reducible rfl)
  (try simp only [Act.put, List.setIfInBounds_toArray, List.set_cons_zero, List.set_cons_succ])
  refine wpAnyH_done (by kernel_rfl) ?_ _
  refine NoPanic.normal ?_
  go_wp2
  go_ret
  exact ⟨rfl, below_more HV4.out HC6.out⟩
theorem walk (w : World) (c : Cm) (hf : FC c) (hl : (c.t.length : Int) ≤ 140737488351232) (s : List Int) (hb : Byt s) (hs : (s.length : Int) ≤ 140737488351232) :
    Calls Try.prog 3 #[cv c, .string (strOfNums s)] w fun e w' => e = .returned (.bool true) ∧ Below w.heap.size w w' := by
  by_cases h : (2048 : Int) < c.t.length + s.length
  · exact big w c s hl hs h
  · exact inner w c s hf hb (by omega)


set_option maxRecDepth 100000 in
theorem lifted (os : Os) (started : os.Started) (H : Type) (enc : TypeId × Value → H) :
    ReturnsInHanded {} Try.checked os 3 .any (Rows.commandWritesSpec.pre6 enc Try.prog Try.f3 Rows.commandWritesRow.domain false) (Rows.commandWritesSpec.post enc Try.prog Try.f3 false true false false) := by
  refine returnsInHanded_of_change_sized (C := Try.checked) own started (by kernel_rfl) Try.func3
    (ChangeSpec.witness6 (enc := enc) (C := Try.checked) false ⟨#[], #[.agg #[.int .i64 0, .string ⟨#[]⟩, .int .i64 0, .int .i64 0], .string ⟨#[]⟩], []⟩ 8 (by kernel_rfl) (by kernel_rfl) (by kernel_rfl) (by kernel_rfl)) ?_
  intro W base args ds gs before hval0 hW hcnd hsz0 _
  have hval : ∀ (j : Nat) t v, Try.f3.params[j]? = some t → args[j]? = some v → Value.okWide Try.prog W .any base t v := hval0
  have hW' := hW
  obtain ⟨p, q, hA0, hV, rfl, hfz, hnd⟩ := hW
  have hA : DataW.TrodAll enc Try.prog W 0 (fun _ => true) true Try.f3.params.toList args.toList ds p := hA0
  rw [Try.params3] at hA hval
  obtain ⟨v0, vs0, d0, ds0, p0, q0, hargs, rfl, rfl, h0, r0⟩ := trodAll_cons hA
  obtain ⟨v1, vs1, d1, ds1, p1, q1, rfl, rfl, rfl, h1, r1⟩ := trodAll_cons r0
  obtain ⟨rfl, rfl, rfl⟩ := trodAll_nil r1
  obtain rfl : args = #[v0, v1] := by cases args; simp_all
  obtain ⟨rfl, rfl⟩ := trodVars_none hV
  clear hA0 hval0
  have hsz : (DataW.weightsEach Try.prog [23, 9] [d0, d1]).all (· ≤ reachBytes) = true := hsz0
  clear hsz0
  have hlt0 : ∀ x ∈ p0, x.block < W.heap.size := fun x hx => hW'.lt x (by simp [hx])
  have hk0 := h0
  obtain ⟨c0, rfl, hf0, hl0, hp0⟩ := Cop.viewC (j := 0) (hval 0 23 v0 rfl rfl) h0 hsz rfl rfl
  obtain ⟨a1, rfl, rfl, rfl, w1⟩ := Go.ChangeMaps.open_string Try.underlying9 (hval 1 9 v1 rfl rfl) h1
  have z1 := Cop.lenT (j := 1) hsz rfl rfl
  obtain ⟨t1, ht1, hb1, hn1⟩ := Cop.text_of a1
  subst ht1
  simp only [List.append_nil] at hW'
  refine (walk W c0 hf0 hl0 t1 hb1 (by rw [hn1]; exact z1)).mono fun e W' ⟨he, hg⟩ => ?_
  subst he
  exact ⟨_, rfl, _, _, _, [], _, [], hW', (trodAll_cons_mk (shut_bool Try.underlying4 _) trodAll_mk0), (trodAll_cons_mk (Below.trod Pop.laidOut (by kernel_rfl) (of_decide_eq_true (by kernel_rfl)) hk0 hg hlt0) (trodAll_cons_mk (Go.ChangeMaps.shut_string Try.underlying9 w1) trodAll_mk0)), rfl, hg.frame _, fun h => by cases h⟩

theorem over : Rows.commandWritesRow.holds Try.pinned (OpenSpec.ofChange Rows.commandWritesSpec) :=
  OpenClaim.holds_of_wide 3 Try.f3 rfl rfl rfl rfl rfl rfl rfl ⟨rfl, rfl, rfl, rfl, rfl⟩ rfl rfl rfl rfl rfl (by kernel_rfl) Try.func3 (by kernel_rfl)
    (of_decide_eq_true (by kernel_rfl)) (by unfold Func.isWrapper; first | (rw [if_pos (by decide +kernel)]; kernel_rfl) | (rw [if_neg (by decide +kernel)]; exact ⟨rfl, rfl⟩))
    (fun os started H enc _ => lifted os started H enc)

/-- The given statement. -/
theorem proved : Rows.CommandWritesSaid :=
  over
#print axioms proved
end Go.Proofs.Yteiknfhoggoapaa.commandWrites
