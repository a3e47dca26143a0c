/-
  The law MessageWrites: which messages are right and alike, how many numbers each Do has, and what load a message is, is what the document says, for all messages of at most 100 numbers and 1024 bytes of text and every number; no condition beyond the types', and that the table of sizes stands as the program's text lays it.
-/
import Derived.Test.YtadpajkjjmdcnaaDoorSma
import Derived.Test.YtadpajkjjmdcnaaDoorMop
import Derived.Test.YtadpajkjjmdcnaaDoorCards
import Derived.Test.YtadpajkjjmdcnaaDoorTie
import Derived.WalkKit
import Derived.ProofKit
import Derived.OpenShut
import Derived.Deep.DeepHandedRow
import Derived.Deep.RegionHeld3
namespace Go.Proofs.YtadpajkjjmdcnaaDoor.messageWrites
open Go.ChangeShapes Go.WideShapes Go.ChangeAt Go.RowKit Con Pm Mth
set_option linter.unusedVariables false

theorem own : ownKnob Tryd.prog.godebug = none := by kernel_rfl

set_option maxRecDepth 100000 in
set_option maxHeartbeats 4000000 in
theorem bigM (w : World) (hS : Sz w) (m : Ms) (A : Option Addr) (c : Nat) (hn : (m.l.length : Int) ≤ 9223372036854775807) (ht : (m.t.length : Int) ≤ 9223372036854775807) (o : Ms) (Ao : Option Addr) (co : Nat) (hno : (o.l.length : Int) ≤ 9223372036854775807) (hto : (o.t.length : Int) ≤ 9223372036854775807) (d : Int)
    (h : ¬ (((m.l.length : Int) ≤ 100 ∧ (m.t.length : Int) ≤ 1024) ∧ ((o.l.length : Int) ≤ 100 ∧ (o.t.length : Int) ≤ 1024))) :
    Calls Tryd.prog 3 #[mv m A c, mv o Ao co, .int .i64 d] w fun e w' => e = .returned (.bool true) ∧ Below w.heap.size w w' := by
  obtain ⟨hB0, hX0, hY0⟩ := two_boxes w m o A c Ao co
  have HB0 := Lib.hid hB0; have HX0 := Lib.hid hX0; have HY0 := Lib.hid hY0
  have HS0 := Lib.hid (hS.keep HB0.out hS.pos)
  have HFm := Lib.hid (fun V => few_any m A c V hn ht)
  have HFo := Lib.hid (fun V => few_any o Ao co V hno hto)
  generalize hF : (decide ((m.l.length : Int) ≤ 100) && decide ((m.t.length : Int) ≤ 1024)) = F at HFm
  generalize hG : (decide ((o.l.length : Int) ≤ 100) && decide ((o.t.length : Int) ≤ 1024)) = G at HFo
  clear hS hn ht hno hto hB0 hX0 hY0
  go_enter Tryd.func3, Tryd.ntmps3
  go_wp2_with (fail)
  generalize (w.alloc (oM m A c)).alloc (oM o Ao co) = w0 at *
  (with_reducible refine (small_any w0 HS0.out).mono ?_); rintro e w1 ⟨rfl, hB1⟩
  have HX1 := Lib.hid (HX0.out.of hB1 HX0.out.lt)
  have HY1 := Lib.hid (HY0.out.of hB1 HY0.out.lt)
  have HV1 : Hid (Below w.heap.size w w1) := Lib.hid (below_more HB0.out hB1)
  clear hB1
  obtain ⟨z0, z1, z2⟩ := HX1.out.at
  cases F with
  | false =>
    clear h hF hG
    go_wp2_with ((with_reducible refine (HFm.out _).mono ?_); rintro e w2 ⟨rfl, hB2⟩; have HB2 := Lib.hid hB2; clear hB2)
    go_ret
    exact ⟨rfl, below_more HV1.out HB2.out⟩
  | true =>
    have hG' : G = false := by
      cases G with
      | false => rfl
      | true => exact absurd ⟨by simpa using hF, by simpa using hG⟩ h
    subst hG'
    clear h hF hG
    go_wp2_with (fail)
    (with_reducible refine (HFm.out _).mono ?_); rintro e w2 ⟨rfl, hB2⟩
    have HB2 := Lib.hid hB2
    have HY2 := Lib.hid (HY1.out.of hB2 HY1.out.lt)
    obtain ⟨y0, y1, y2⟩ := HY2.out.at
    clear hB2 z0 z1 z2
    go_wp2_with ((with_reducible refine (HFo.out _).mono ?_); rintro e w3 ⟨rfl, hB3⟩; have HB3 := Lib.hid hB3; clear hB3)
    go_ret
    exact ⟨rfl, below_more (below_more HV1.out HB2.out) HB3.out⟩
set_option maxRecDepth 100000 in
set_option maxHeartbeats 8000000 in
theorem inner (w : World) (hS : Sz w) (m : Ms) (A : Option Addr) (c : Nat) (hr : Rd .i64 w w.heap.size A m.l) (hf : FM m) (hn : (m.l.length : Int) ≤ 100) (ht : (m.t.length : Int) ≤ 1024) (o : Ms) (Ao : Option Addr) (co : Nat) (hro : Rd .i64 w w.heap.size Ao o.l) (hfo : FM o) (hno : (o.l.length : Int) ≤ 100) (hto : (o.t.length : Int) ≤ 1024) (d : Int) (hd : -9223372036854775808 ≤ d ∧ d ≤ 9223372036854775807) :
    Calls Tryd.prog 3 #[mv m A c, mv o Ao co, .int .i64 d] w fun e w' => e = .returned (.bool true) ∧ Below w.heap.size w w' := by
  obtain ⟨hd0, hd1⟩ := hd
  obtain ⟨hB0, hX0, hY0⟩ := two_boxes w m o A c Ao co
  have HB0 := Lib.hid hB0; have HX0 := Lib.hid hX0; have HY0 := Lib.hid hY0
  have HFm : Hid (∀ V : World, Calls Tryd.prog 7 #[mv m A c] V fun e w' => e = .returned (.bool true) ∧ Below V.heap.size V w') := Lib.hid (fun V => by
    have := few_any m A c V (by omega) (by omega)
    rwa [decide_eq_true hn, decide_eq_true ht] at this)
  have HFo : Hid (∀ V : World, Calls Tryd.prog 7 #[mv o Ao co] V fun e w' => e = .returned (.bool true) ∧ Below V.heap.size V w') := Lib.hid (fun V => by
    have := few_any o Ao co V (by omega) (by omega)
    rwa [decide_eq_true hno, decide_eq_true hto] at this)
  have HR := Lib.hid (fun V (hV : Below w.heap.size w V) => hr.below hV (Nat.le_refl _))
  have HRo := Lib.hid (fun V (hV : Below w.heap.size w V) => hro.below hV (Nat.le_refl _))
  have HSz := Lib.hid (fun V (hV : Below w.heap.size w V) => hS.keep hV hS.pos)
  have HF := Lib.hid hf; have HFo2 := Lib.hid hfo
  clear hS hr hf hro hfo hB0 hX0 hY0
  generalize hE : enE m = er
  have HE := Lib.hid hE
  generalize hI : isD d = yd
  have HI := Lib.hid hI
  clear hE hI
  go_enter Tryd.func3, Tryd.ntmps3
  go_wp2_with (fail)
  generalize (w.alloc (oM m A c)).alloc (oM o Ao co) = w0 at *
  (with_reducible refine (small_any w0 (HSz.out _ HB0.out)).mono ?_); rintro e w1 ⟨rfl, hB1⟩
  have HX1 := Lib.hid (HX0.out.of hB1 HX0.out.lt)
  have HY1 := Lib.hid (HY0.out.of hB1 HY0.out.lt)
  have HV1 : Hid (Below w.heap.size w w1) := Lib.hid (below_more HB0.out hB1)
  clear hB1
  obtain ⟨z0, z1, z2⟩ := HX1.out.at
  go_wp2_with (fail)
  (with_reducible refine (HFm.out _).mono ?_); rintro e w2 ⟨rfl, hB2⟩
  have HX2 := Lib.hid (HX1.out.of hB2 HX1.out.lt)
  have HY2 := Lib.hid (HY1.out.of hB2 HY1.out.lt)
  have HV2 : Hid (Below w.heap.size w w2) := Lib.hid (below_more HV1.out hB2)
  obtain ⟨y0, y1, y2⟩ := HY2.out.at
  clear hB2 z0 z1 z2
  go_wp2_with (fail)
  (with_reducible refine (HFo.out _).mono ?_); rintro e w3 ⟨rfl, hB3⟩
  have HX3 := Lib.hid (HX2.out.of hB3 HX2.out.lt)
  have HY3 := Lib.hid (HY2.out.of hB3 HY2.out.lt)
  have HV3 : Hid (Below w.heap.size w w3) := Lib.hid (below_more HV2.out hB3)
  clear hB3 y0 y1 y2
  obtain ⟨z0, z1, z2⟩ := HX3.out.at
  go_wp2_with (fail)
  (with_reducible refine (encode_any m A c w3 w.heap.size (HR.out _ HV3.out) HV3.out.size HF.out (by omega) (by omega) (HSz.out _ HV3.out)).mono ?_); rintro e wa ⟨l1, A1, c1, HL1, rfl, HO1, HBa⟩
  have HXa := Lib.hid (HX3.out.of HBa.out HX3.out.lt)
  have HYa := Lib.hid (HY3.out.of HBa.out HY3.out.lt)
  have HVa : Hid (Below w.heap.size w wa) := Lib.hid (below_more HV3.out HBa.out)
  clear z0 z1 z2
  obtain ⟨z0, z1, z2⟩ := HXa.out.at
  rw [HE.out]
  go_wp2_with (fail)
  (with_reducible refine (rencode_any m A c wa w.heap.size (HR.out _ HVa.out) HVa.out.size HF.out (by omega) (by omega)).mono ?_); rintro e wb ⟨l2, A2, c2, HL2, rfl, HO2, HBb⟩
  have HXb := Lib.hid (HXa.out.of HBb.out HXa.out.lt)
  have HYb := Lib.hid (HYa.out.of HBb.out HYa.out.lt)
  have HVb : Hid (Below w.heap.size w wb) := Lib.hid (below_more HVa.out HBb.out)
  rw [HE.out]
  obtain rfl : l2 = l1 := HL2.out.trans HL1.out.symm
  have HZ1 : Hid (Calls Tryd.prog 10 #[.int .i64 d] wb fun e w' => e = .returned (.tuple #[.int .i64 (szN d : Nat), .bool yd]) ∧ wb = w') := Lib.hid (by rw [← HI.out]; exact size_any d wb (HSz.out _ HVb.out) hd0 hd1)
  have HZ2 : Hid (Calls Tryd.prog 11 #[.int .i64 d] wb fun e w' => e = .returned (.tuple #[.int .i64 (szN d : Nat), .bool yd]) ∧ wb = w') := Lib.hid (by rw [← HI.out]; exact rsize_any d wb hd0 hd1)
  clear z0 z1 z2
  go_wp2_with (first
    | ((with_reducible refine HZ1.out.mono ?_); rintro e wc ⟨rfl, rfl⟩)
    | ((with_reducible refine HZ2.out.mono ?_); rintro e wc ⟨rfl, rfl⟩))
  have HX4 : Hid (Bx wb.drew w.heap.size m A c) := HXb
  have HY4 : Hid (Bx wb.drew (w.heap.size + 1) o Ao co) := HYb
  have HO1d : Hid (Own wb.drew w3.heap.size .u8 5 A1 c1 l2) := Lib.hid (HO1.out.below HBb.out.drew (Nat.le_refl _))
  have HO2d : Hid (Own wb.drew wa.heap.size .u8 5 A2 c2 l2) := HO2
  have HV4 := Lib.hid HVb.out.drew
  refine wp_region_noPanic ?_
  refine wp_region_held_drew (S := fun w' => Below wb.drew.heap.size wb.drew w') (by kernel_rfl) (Below.refl _ _) (fun _ => ?_)
  generalize wb.drew = w4 at HX4 HY4 HO1d HO2d HV4 ⊢
  have HC4 := Lib.hid (Below.refl w4.heap.size w4)
  obtain ⟨rb, hrb⟩ : ∃ x, x = rtM m := ⟨_, rfl⟩
  have HRi : Hid (∀ V, Below w4.heap.size w4 V → Calls Tryd.prog 12 #[mv m A c] V fun e w' => e = .returned (.bool rb) ∧ Below V.heap.size V w') := Lib.hid (fun V hV => by rw [hrb]; exact right_any m A c HF.out (by omega) (by omega) V (HSz.out _ (below_more HV4.out hV)))
  have HRr : Hid (∀ V, Below w4.heap.size w4 V → Calls Tryd.prog 13 #[mv m A c] V fun e w' => e = .returned (.bool rb) ∧ Below V.heap.size V w') := Lib.hid (fun V hV => by rw [hrb]; exact rright_any m A c HF.out (by omega) (by omega) V)
  obtain ⟨x, hx⟩ := bex (m = o)
  have HSa : Hid (∀ V, Below w4.heap.size w4 V → Calls Tryd.prog 14 #[mv m A c, mv o Ao co] V fun e w' => e = .returned (.bool x) ∧ Below V.heap.size V w') := Lib.hid (fun V hV => same_any m o A c Ao co V w.heap.size (HR.out _ (below_more HV4.out hV)) (HRo.out _ (below_more HV4.out hV)) (below_more HV4.out hV).size HF.out HFo2.out (by omega) x hx)
  have HSr : Hid (∀ V, Below w4.heap.size w4 V → Calls Tryd.prog 15 #[mv m A c, mv o Ao co] V fun e w' => e = .returned (.bool x) ∧ Below V.heap.size V w') := Lib.hid (fun V hV => rsame_any m o A c Ao co V w.heap.size (HR.out _ (below_more HV4.out hV)) (HRo.out _ (below_more HV4.out hV)) (below_more HV4.out hV).size HF.out HFo2.out (by omega) x hx)
  clear hrb hx
  refine wpAnyH_take (i := 0) (oi := ⟨some 47, Op.move (Operand.tmp 7), 4, _, _, none⟩) (v := ?vy0) rfl (by kernel_rfl) (by kernel_rfl) (by kernel_rfl) (fun _ _ _ h => h) (Or.inl ⟨by rfl, ?hy0⟩) HC4.out ?ry0
  case hy0 => (intro wz hSw; go_simp <;> with_reducible rfl)
  (try simp only [Act.put, List.setIfInBounds_toArray, List.set_cons_zero, List.set_cons_succ])
  refine wpAnyH_take (i := 1) (oi := ⟨some 48, Op.move (Operand.tmp 47), 4, _, _, none⟩) (v := ?vy1) rfl (by kernel_rfl) (by kernel_rfl) (by kernel_rfl) (fun _ _ _ h => h) (Or.inl ⟨by rfl, ?hy1⟩) HC4.out ?ry1
  case hy1 => (intro wz hSw; go_simp <;> with_reducible rfl)
  (try simp only [Act.put, List.setIfInBounds_toArray, List.set_cons_zero, List.set_cons_succ])
  refine wpAnyH_take (i := 2) (oi := ⟨some 49, Op.move (Operand.tmp 9), 27, _, _, some (1, true)⟩) (v := ?vy2) rfl (by kernel_rfl) (by kernel_rfl) (by kernel_rfl) (fun _ _ _ h => h) (Or.inl ⟨by rfl, ?hy2⟩) HC4.out ?ry2
  case hy2 => (intro wz hSw; go_simp <;> with_reducible rfl)
  (try simp only [Act.put, List.setIfInBounds_toArray, List.set_cons_zero, List.set_cons_succ])
  refine wpAnyH_take (i := 3) (oi := ⟨some 50, Op.convert 27 9 (Operand.tmp 49), 9, _, _, some (1, true)⟩) (v := ?vy3) rfl (by kernel_rfl) (by kernel_rfl) (by kernel_rfl) (fun _ _ _ h => h) (Or.inl ⟨by rfl, ?hy3⟩) HC4.out ?ry3
  case hy3 => (intro wz hSw; have hz := conv c1 (own_rd (HO1d.out.below hSw (Nat.le_refl _))); go_simp <;> with_reducible rfl)
  (try simp only [Act.put, List.setIfInBounds_toArray, List.set_cons_zero, List.set_cons_succ])
  refine wpAnyH_take (i := 4) (oi := ⟨some 51, Op.move (Operand.tmp 11), 27, _, _, some (1, true)⟩) (v := ?vy4) rfl (by kernel_rfl) (by kernel_rfl) (by kernel_rfl) (fun _ _ _ h => h) (Or.inl ⟨by rfl, ?hy4⟩) HC4.out ?ry4
  case hy4 => (intro wz hSw; go_simp <;> with_reducible rfl)
  (try simp only [Act.put, List.setIfInBounds_toArray, List.set_cons_zero, List.set_cons_succ])
  refine wpAnyH_take (i := 5) (oi := ⟨some 52, Op.convert 27 9 (Operand.tmp 51), 9, _, _, some (1, true)⟩) (v := ?vy5) rfl (by kernel_rfl) (by kernel_rfl) (by kernel_rfl) (fun _ _ _ h => h) (Or.inl ⟨by rfl, ?hy5⟩) HC4.out ?ry5
  case hy5 => (intro wz hSw; have hz := conv c2 (own_rd (HO2d.out.below hSw (Nat.le_refl _))); go_simp <;> with_reducible rfl)
  (try simp only [Act.put, List.setIfInBounds_toArray, List.set_cons_zero, List.set_cons_succ])
  refine wpAnyH_take (i := 6) (oi := ⟨some 53, Op.binOp BinOp.eql 9 (Operand.tmp 50) (Operand.tmp 52) 9, 4, _, _, some (1, true)⟩) (v := ?vy6) rfl (by kernel_rfl) (by kernel_rfl) (by kernel_rfl) (fun _ _ _ h => h) (Or.inl ⟨by rfl, ?hy6⟩) HC4.out ?ry6
  case hy6 => (intro wz hSw; go_simp <;> with_reducible rfl)
  (try simp only [Act.put, List.setIfInBounds_toArray, List.set_cons_zero, List.set_cons_succ])
  refine wpAnyH_take (i := 7) (oi := ⟨some 54, Op.pick (Operand.tmp 48) (Operand.tmp 53) (Operand.const (Value.bool false)), 4, _, _, none⟩) (v := ?vy7) rfl (by kernel_rfl) (by kernel_rfl) (by kernel_rfl) (fun _ _ _ h => h) (Or.inl ⟨by rfl, ?hy7⟩) HC4.out ?ry7
  case hy7 => (intro wz hSw; go_simp <;> with_reducible rfl)
  (try simp only [Act.put, List.setIfInBounds_toArray, List.set_cons_zero, List.set_cons_succ])
  refine wpAnyH_take (i := 8) (oi := ⟨some 55, Op.move (Operand.tmp 54), 4, _, _, none⟩) (v := ?vy8) rfl (by kernel_rfl) (by kernel_rfl) (by kernel_rfl) (fun _ _ _ h => h) (Or.inl ⟨by rfl, ?hy8⟩) HC4.out ?ry8
  case hy8 => (intro wz hSw; go_simp <;> with_reducible rfl)
  (try simp only [Act.put, List.setIfInBounds_toArray, List.set_cons_zero, List.set_cons_succ])
  refine wpAnyH_take (i := 9) (oi := ⟨some 56, Op.move (Operand.tmp 10), 28, _, _, some (8, true)⟩) (v := ?vy9) rfl (by kernel_rfl) (by kernel_rfl) (by kernel_rfl) (fun _ _ _ h => h) (Or.inl ⟨by rfl, ?hy9⟩) HC4.out ?ry9
  case hy9 => (intro wz hSw; go_simp <;> with_reducible rfl)
  (try simp only [Act.put, List.setIfInBounds_toArray, List.set_cons_zero, List.set_cons_succ])
  refine wpAnyH_take (i := 10) (oi := ⟨some 57, Op.move (Operand.tmp 12), 28, _, _, some (8, true)⟩) (v := ?vy10) rfl (by kernel_rfl) (by kernel_rfl) (by kernel_rfl) (fun _ _ _ h => h) (Or.inl ⟨by rfl, ?hy10⟩) HC4.out ?ry10
  case hy10 => (intro wz hSw; go_simp <;> with_reducible rfl)
  (try simp only [Act.put, List.setIfInBounds_toArray, List.set_cons_zero, List.set_cons_succ])
  refine wpAnyH_take (i := 11) (oi := ⟨some 58, Op.binOp BinOp.eql 28 (Operand.tmp 56) (Operand.tmp 57) 28, 4, _, _, some (8, true)⟩) (v := ?vy11) rfl (by kernel_rfl) (by kernel_rfl) (by kernel_rfl) (fun _ _ _ h => h) (Or.inl ⟨by rfl, ?hy11⟩) HC4.out ?ry11
  case hy11 => (intro wz hSw; go_simp <;> with_reducible rfl)
  (try simp only [Act.put, List.setIfInBounds_toArray, List.set_cons_zero, List.set_cons_succ])
  refine wpAnyH_take (i := 12) (oi := ⟨some 59, Op.pick (Operand.tmp 55) (Operand.tmp 58) (Operand.const (Value.bool false)), 4, _, _, none⟩) (v := ?vy12) rfl (by kernel_rfl) (by kernel_rfl) (by kernel_rfl) (fun _ _ _ h => h) (Or.inl ⟨by rfl, ?hy12⟩) HC4.out ?ry12
  case hy12 => (intro wz hSw; go_simp <;> with_reducible rfl)
  (try simp only [Act.put, List.setIfInBounds_toArray, List.set_cons_zero, List.set_cons_succ])
  refine wpAnyH_take (i := 13) (oi := ⟨some 60, Op.move (Operand.tmp 59), 4, _, _, none⟩) (v := ?vy13) rfl (by kernel_rfl) (by kernel_rfl) (by kernel_rfl) (fun _ _ _ h => h) (Or.inl ⟨by rfl, ?hy13⟩) HC4.out ?ry13
  case hy13 => (intro wz hSw; go_simp <;> with_reducible rfl)
  (try simp only [Act.put, List.setIfInBounds_toArray, List.set_cons_zero, List.set_cons_succ])
  refine wpAnyH_take (i := 14) (oi := ⟨some 61, Op.move (Operand.tmp 13), 3, _, _, some (13, true)⟩) (v := ?vy14) rfl (by kernel_rfl) (by kernel_rfl) (by kernel_rfl) (fun _ _ _ h => h) (Or.inl ⟨by rfl, ?hy14⟩) HC4.out ?ry14
  case hy14 => (intro wz hSw; go_simp <;> with_reducible rfl)
  (try simp only [Act.put, List.setIfInBounds_toArray, List.set_cons_zero, List.set_cons_succ])
  refine wpAnyH_take (i := 15) (oi := ⟨some 62, Op.move (Operand.tmp 15), 3, _, _, some (13, true)⟩) (v := ?vy15) rfl (by kernel_rfl) (by kernel_rfl) (by kernel_rfl) (fun _ _ _ h => h) (Or.inl ⟨by rfl, ?hy15⟩) HC4.out ?ry15
  case hy15 => (intro wz hSw; go_simp <;> with_reducible rfl)
  (try simp only [Act.put, List.setIfInBounds_toArray, List.set_cons_zero, List.set_cons_succ])
  refine wpAnyH_take (i := 16) (oi := ⟨some 63, Op.binOp BinOp.eql 3 (Operand.tmp 61) (Operand.tmp 62) 3, 4, _, _, some (13, true)⟩) (v := ?vy16) rfl (by kernel_rfl) (by kernel_rfl) (by kernel_rfl) (fun _ _ _ h => h) (Or.inl ⟨by rfl, ?hy16⟩) HC4.out ?ry16
  case hy16 => (intro wz hSw; go_simp <;> with_reducible rfl)
  (try simp only [Act.put, List.setIfInBounds_toArray, List.set_cons_zero, List.set_cons_succ])
  refine wpAnyH_take (i := 17) (oi := ⟨some 64, Op.pick (Operand.tmp 60) (Operand.tmp 63) (Operand.const (Value.bool false)), 4, _, _, none⟩) (v := ?vy17) rfl (by kernel_rfl) (by kernel_rfl) (by kernel_rfl) (fun _ _ _ h => h) (Or.inl ⟨by rfl, ?hy17⟩) HC4.out ?ry17
  case hy17 => (intro wz hSw; go_simp <;> with_reducible rfl)
  (try simp only [Act.put, List.setIfInBounds_toArray, List.set_cons_zero, List.set_cons_succ])
  refine wpAnyH_take (i := 18) (oi := ⟨some 65, Op.move (Operand.tmp 64), 4, _, _, none⟩) (v := ?vy18) rfl (by kernel_rfl) (by kernel_rfl) (by kernel_rfl) (fun _ _ _ h => h) (Or.inl ⟨by rfl, ?hy18⟩) HC4.out ?ry18
  case hy18 => (intro wz hSw; go_simp <;> with_reducible rfl)
  (try simp only [Act.put, List.setIfInBounds_toArray, List.set_cons_zero, List.set_cons_succ])
  refine wpAnyH_take (i := 19) (oi := ⟨some 66, Op.move (Operand.tmp 14), 4, _, _, some (18, true)⟩) (v := ?vy19) rfl (by kernel_rfl) (by kernel_rfl) (by kernel_rfl) (fun _ _ _ h => h) (Or.inl ⟨by rfl, ?hy19⟩) HC4.out ?ry19
  case hy19 => (intro wz hSw; go_simp <;> with_reducible rfl)
  (try simp only [Act.put, List.setIfInBounds_toArray, List.set_cons_zero, List.set_cons_succ])
  refine wpAnyH_take (i := 20) (oi := ⟨some 67, Op.move (Operand.tmp 16), 4, _, _, some (18, true)⟩) (v := ?vy20) rfl (by kernel_rfl) (by kernel_rfl) (by kernel_rfl) (fun _ _ _ h => h) (Or.inl ⟨by rfl, ?hy20⟩) HC4.out ?ry20
  case hy20 => (intro wz hSw; go_simp <;> with_reducible rfl)
  (try simp only [Act.put, List.setIfInBounds_toArray, List.set_cons_zero, List.set_cons_succ])
  refine wpAnyH_take (i := 21) (oi := ⟨some 68, Op.binOp BinOp.eql 4 (Operand.tmp 66) (Operand.tmp 67) 4, 4, _, _, some (18, true)⟩) (v := ?vy21) rfl (by kernel_rfl) (by kernel_rfl) (by kernel_rfl) (fun _ _ _ h => h) (Or.inl ⟨by rfl, ?hy21⟩) HC4.out ?ry21
  case hy21 => (intro wz hSw; go_simp <;> with_reducible rfl)
  (try simp only [Act.put, List.setIfInBounds_toArray, List.set_cons_zero, List.set_cons_succ])
  refine wpAnyH_take (i := 22) (oi := ⟨some 69, Op.pick (Operand.tmp 65) (Operand.tmp 68) (Operand.const (Value.bool false)), 4, _, _, none⟩) (v := ?vy22) rfl (by kernel_rfl) (by kernel_rfl) (by kernel_rfl) (fun _ _ _ h => h) (Or.inl ⟨by rfl, ?hy22⟩) HC4.out ?ry22
  case hy22 => (intro wz hSw; go_simp <;> with_reducible rfl)
  (try simp only [Act.put, List.setIfInBounds_toArray, List.set_cons_zero, List.set_cons_succ])
  refine wpAnyH_take (i := 23) (oi := ⟨some 70, Op.move (Operand.tmp 69), 4, _, _, none⟩) (v := ?vy23) rfl (by kernel_rfl) (by kernel_rfl) (by kernel_rfl) (fun _ _ _ h => h) (Or.inl ⟨by rfl, ?hy23⟩) HC4.out ?ry23
  case hy23 => (intro wz hSw; go_simp <;> with_reducible rfl)
  (try simp only [Act.put, List.setIfInBounds_toArray, List.set_cons_zero, List.set_cons_succ])
  refine wpAnyH_take (i := 24) (oi := ⟨some 71, Op.load 24 (Operand.tmp 3), 24, _, _, some (23, true)⟩) (v := ?vy24) rfl (by kernel_rfl) (by kernel_rfl) (by kernel_rfl) (fun _ _ _ h => h) (Or.inl ⟨by rfl, ?hy24⟩) HC4.out ?ry24
  case hy24 => (intro wz hSw; have hc := (HX4.out.of hSw HX4.out.lt).at; obtain ⟨a0, a1, a2⟩ := hc; have hd := (HY4.out.of hSw HY4.out.lt).at; obtain ⟨b0, b1, b2⟩ := hd; go_simp <;> with_reducible rfl)
  (try simp only [Act.put, List.setIfInBounds_toArray, List.set_cons_zero, List.set_cons_succ])
  refine wpAnyH_take (i := 26) (oi := ⟨some 73, Op.load 24 (Operand.tmp 3), 24, _, _, some (23, true)⟩) (v := ?vy26) rfl (by kernel_rfl) (by kernel_rfl) (by kernel_rfl) (fun _ _ _ h => h) (Or.inl ⟨by rfl, ?hy26⟩) HC4.out ?ry26
  case hy26 => (intro wz hSw; have hc := (HX4.out.of hSw HX4.out.lt).at; obtain ⟨a0, a1, a2⟩ := hc; have hd := (HY4.out.of hSw HY4.out.lt).at; obtain ⟨b0, b1, b2⟩ := hd; go_simp <;> with_reducible rfl)
  (try simp only [Act.put, List.setIfInBounds_toArray, List.set_cons_zero, List.set_cons_succ])
  refine wpAnyH_ready (rs := [25]) (by kernel_rfl) (by simp) ?_
  refine AllReadyH.cons (o := ⟨some 72, Op.call { callee := Callee.value (Operand.func 12), args := #[Operand.tmp 71], argTypes := #[24] }, 4, _, _, some (23, true)⟩) rfl (fun K hK => ?_) AllReadyH.nil
  go_simp
  (with_reducible refine (HRi.out _ HC4.out).mono ?_); rintro e v5 ⟨rfl, hb5⟩; have HC5 := Lib.hid (below_more HC4.out hb5); clear hb5
  refine hK.out _ _ HC5.out (fun _ => ?_)
  clear hK K
  (try simp only [Act.put, List.setIfInBounds_toArray, List.set_cons_zero, List.set_cons_succ])
  refine wpAnyH_ready (rs := [27]) (by kernel_rfl) (by simp) ?_
  refine AllReadyH.cons (o := ⟨some 74, Op.call { callee := Callee.value (Operand.func 13), args := #[Operand.tmp 73], argTypes := #[24] }, 4, _, _, some (23, true)⟩) rfl (fun K hK => ?_) AllReadyH.nil
  go_simp
  (with_reducible refine (HRr.out _ HC5.out).mono ?_); rintro e v6 ⟨rfl, hb6⟩; have HC6 := Lib.hid (below_more HC5.out hb6); clear hb6
  refine hK.out _ _ HC6.out (fun _ => ?_)
  clear hK K
  (try simp only [Act.put, List.setIfInBounds_toArray, List.set_cons_zero, List.set_cons_succ])
  refine wpAnyH_take (i := 28) (oi := ⟨some 75, Op.binOp BinOp.eql 4 (Operand.tmp 72) (Operand.tmp 74) 4, 4, _, _, some (23, true)⟩) (v := ?vy28) rfl (by kernel_rfl) (by kernel_rfl) (by kernel_rfl) (fun _ _ _ h => h) (Or.inl ⟨by rfl, ?hy28⟩) HC6.out ?ry28
  case hy28 => (intro wz hSw; go_simp <;> with_reducible rfl)
  (try simp only [Act.put, List.setIfInBounds_toArray, List.set_cons_zero, List.set_cons_succ])
  refine wpAnyH_take (i := 29) (oi := ⟨some 76, Op.pick (Operand.tmp 70) (Operand.tmp 75) (Operand.const (Value.bool false)), 4, _, _, none⟩) (v := ?vy29) rfl (by kernel_rfl) (by kernel_rfl) (by kernel_rfl) (fun _ _ _ h => h) (Or.inl ⟨by rfl, ?hy29⟩) HC6.out ?ry29
  case hy29 => (intro wz hSw; go_simp <;> with_reducible rfl)
  (try simp only [Act.put, List.setIfInBounds_toArray, List.set_cons_zero, List.set_cons_succ])
  refine wpAnyH_take (i := 30) (oi := ⟨some 77, Op.move (Operand.tmp 76), 4, _, _, none⟩) (v := ?vy30) rfl (by kernel_rfl) (by kernel_rfl) (by kernel_rfl) (fun _ _ _ h => h) (Or.inl ⟨by rfl, ?hy30⟩) HC6.out ?ry30
  case hy30 => (intro wz hSw; go_simp <;> with_reducible rfl)
  (try simp only [Act.put, List.setIfInBounds_toArray, List.set_cons_zero, List.set_cons_succ])
  refine wpAnyH_take (i := 31) (oi := ⟨some 78, Op.load 24 (Operand.tmp 3), 24, _, _, some (30, true)⟩) (v := ?vy31) rfl (by kernel_rfl) (by kernel_rfl) (by kernel_rfl) (fun _ _ _ h => h) (Or.inl ⟨by rfl, ?hy31⟩) HC6.out ?ry31
  case hy31 => (intro wz hSw; have hc := (HX4.out.of hSw HX4.out.lt).at; obtain ⟨a0, a1, a2⟩ := hc; have hd := (HY4.out.of hSw HY4.out.lt).at; obtain ⟨b0, b1, b2⟩ := hd; go_simp <;> with_reducible rfl)
  (try simp only [Act.put, List.setIfInBounds_toArray, List.set_cons_zero, List.set_cons_succ])
  refine wpAnyH_take (i := 32) (oi := ⟨some 79, Op.load 24 (Operand.tmp 4), 24, _, _, some (30, true)⟩) (v := ?vy32) rfl (by kernel_rfl) (by kernel_rfl) (by kernel_rfl) (fun _ _ _ h => h) (Or.inl ⟨by rfl, ?hy32⟩) HC6.out ?ry32
  case hy32 => (intro wz hSw; have hc := (HX4.out.of hSw HX4.out.lt).at; obtain ⟨a0, a1, a2⟩ := hc; have hd := (HY4.out.of hSw HY4.out.lt).at; obtain ⟨b0, b1, b2⟩ := hd; go_simp <;> with_reducible rfl)
  (try simp only [Act.put, List.setIfInBounds_toArray, List.set_cons_zero, List.set_cons_succ])
  refine wpAnyH_take (i := 34) (oi := ⟨some 81, Op.load 24 (Operand.tmp 3), 24, _, _, some (30, true)⟩) (v := ?vy34) rfl (by kernel_rfl) (by kernel_rfl) (by kernel_rfl) (fun _ _ _ h => h) (Or.inl ⟨by rfl, ?hy34⟩) HC6.out ?ry34
  case hy34 => (intro wz hSw; have hc := (HX4.out.of hSw HX4.out.lt).at; obtain ⟨a0, a1, a2⟩ := hc; have hd := (HY4.out.of hSw HY4.out.lt).at; obtain ⟨b0, b1, b2⟩ := hd; go_simp <;> with_reducible rfl)
  (try simp only [Act.put, List.setIfInBounds_toArray, List.set_cons_zero, List.set_cons_succ])
  refine wpAnyH_take (i := 35) (oi := ⟨some 82, Op.load 24 (Operand.tmp 4), 24, _, _, some (30, true)⟩) (v := ?vy35) rfl (by kernel_rfl) (by kernel_rfl) (by kernel_rfl) (fun _ _ _ h => h) (Or.inl ⟨by rfl, ?hy35⟩) HC6.out ?ry35
  case hy35 => (intro wz hSw; have hc := (HX4.out.of hSw HX4.out.lt).at; obtain ⟨a0, a1, a2⟩ := hc; have hd := (HY4.out.of hSw HY4.out.lt).at; obtain ⟨b0, b1, b2⟩ := hd; go_simp <;> with_reducible rfl)
  (try simp only [Act.put, List.setIfInBounds_toArray, List.set_cons_zero, List.set_cons_succ])
  refine wpAnyH_ready (rs := [33]) (by kernel_rfl) (by simp) ?_
  refine AllReadyH.cons (o := ⟨some 80, Op.call { callee := Callee.value (Operand.func 14), args := #[Operand.tmp 78, Operand.tmp 79], argTypes := #[24, 24] }, 4, _, _, some (30, true)⟩) rfl (fun K hK => ?_) AllReadyH.nil
  go_simp
  (with_reducible refine (HSa.out _ HC6.out).mono ?_); rintro e v7 ⟨rfl, hb7⟩; have HC7 := Lib.hid (below_more HC6.out hb7); clear hb7
  refine hK.out _ _ HC7.out (fun _ => ?_)
  clear hK K
  (try simp only [Act.put, List.setIfInBounds_toArray, List.set_cons_zero, List.set_cons_succ])
  refine wpAnyH_ready (rs := [36]) (by kernel_rfl) (by simp) ?_
  refine AllReadyH.cons (o := ⟨some 83, Op.call { callee := Callee.value (Operand.func 15), args := #[Operand.tmp 81, Operand.tmp 82], argTypes := #[24, 24] }, 4, _, _, some (30, true)⟩) rfl (fun K hK => ?_) AllReadyH.nil
  go_simp
  (with_reducible refine (HSr.out _ HC7.out).mono ?_); rintro e v8 ⟨rfl, hb8⟩; have HC8 := Lib.hid (below_more HC7.out hb8); clear hb8
  refine hK.out _ _ HC8.out (fun _ => ?_)
  clear hK K
  (try simp only [Act.put, List.setIfInBounds_toArray, List.set_cons_zero, List.set_cons_succ])
  refine wpAnyH_take (i := 37) (oi := ⟨some 84, Op.binOp BinOp.eql 4 (Operand.tmp 80) (Operand.tmp 83) 4, 4, _, _, some (30, true)⟩) (v := ?vy37) rfl (by kernel_rfl) (by kernel_rfl) (by kernel_rfl) (fun _ _ _ h => h) (Or.inl ⟨by rfl, ?hy37⟩) HC8.out ?ry37
  case hy37 => (intro wz hSw; go_simp <;> with_reducible rfl)
  (try simp only [Act.put, List.setIfInBounds_toArray, List.set_cons_zero, List.set_cons_succ])
  refine wpAnyH_take (i := 38) (oi := ⟨some 85, Op.pick (Operand.tmp 77) (Operand.tmp 84) (Operand.const (Value.bool false)), 4, _, _, none⟩) (v := ?vy38) rfl (by kernel_rfl) (by kernel_rfl) (by kernel_rfl) (fun _ _ _ h => h) (Or.inl ⟨by rfl, ?hy38⟩) HC8.out ?ry38
  case hy38 => (intro wz hSw; go_simp <;> with_reducible rfl)
  (try simp only [Act.put, List.setIfInBounds_toArray, List.set_cons_zero, List.set_cons_succ])
  refine wpAnyH_take (i := 39) (oi := ⟨some 6, Op.assign (Operand.tmp 85), 4, _, _, none⟩) (v := ?vy39) rfl (by kernel_rfl) (by kernel_rfl) (by kernel_rfl) (fun _ _ _ h => h) (Or.inl ⟨by rfl, ?hy39⟩) HC8.out ?ry39
  case hy39 => (intro wz hSw; go_simp <;> with_reducible rfl)
  (try simp only [Act.put, List.setIfInBounds_toArray, List.set_cons_zero, List.set_cons_succ])
  refine wpAnyH_done (by kernel_rfl) ?_ _
  refine NoPanic.normal ?_
  go_wp2
  go_ret
  exact ⟨rfl, below_more HV4.out HC8.out⟩
theorem walk (w : World) (hS : Sz w) (m : Ms) (A : Option Addr) (c : Nat) (hr : Rd .i64 w w.heap.size A m.l) (hf : FM m) (hn : (m.l.length : Int) ≤ 9223372036854775807) (ht : (m.t.length : Int) ≤ 9223372036854775807) (o : Ms) (Ao : Option Addr) (co : Nat) (hro : Rd .i64 w w.heap.size Ao o.l) (hfo : FM o) (hno : (o.l.length : Int) ≤ 9223372036854775807) (hto : (o.t.length : Int) ≤ 9223372036854775807) (d : Int) (hd : -9223372036854775808 ≤ d ∧ d ≤ 9223372036854775807) :
    Calls Tryd.prog 3 #[mv m A c, mv o Ao co, .int .i64 d] w fun e w' => e = .returned (.bool true) ∧ Below w.heap.size w w' := by
  by_cases h : ((m.l.length : Int) ≤ 100 ∧ (m.t.length : Int) ≤ 1024) ∧ ((o.l.length : Int) ≤ 100 ∧ (o.t.length : Int) ≤ 1024)
  · exact inner w hS m A c hr hf h.1.1 h.1.2 o Ao co hro hfo h.2.1 h.2.2 d hd
  · exact bigM w hS m A c hn ht o Ao co hno hto d h


set_option maxRecDepth 100000 in
theorem contract (H : Type) (enc : TypeId × Value → H) (W : World) (base : Nat) (args : Array Value) (ds gs : List (DataW H)) (before : List MemPlace)
    (hval0 : ∀ (j : Nat) t v, Tryd.f3.params[j]? = some t → args[j]? = some v → Value.okWide Tryd.prog W .any base t v)
    (hW : DataW.Whole enc Tryd.prog Tryd.f3.params.toList Rows.messageWritesSpec.vars false W args.toList ds gs before) (hL : laidMetH Tryd.prog Rows.messageWritesRow.laid W) :
    Calls Tryd.prog 3 args W fun e W' => ∃ v, e = .returned v ∧ Rows.messageWritesSpec.post enc Tryd.prog Tryd.f3 false true false false W args v W' := by
  have hval : ∀ (j : Nat) t v, Tryd.f3.params[j]? = some t → args[j]? = some v → Value.okWide Tryd.prog W .any base t v := hval0
  have hW' := hW
  obtain ⟨p, q, hA0, hV, rfl, hfz, hnd⟩ := hW
  have hA : DataW.TrodAll enc Tryd.prog W 0 (fun _ => true) true Tryd.f3.params.toList args.toList ds p := hA0
  rw [Tryd.params3] at hA hval
  obtain ⟨v0, vs0, d0, ds0, p0, q0, hargs, rfl, rfl, h0, r0⟩ := trodAll_cons hA
  obtain ⟨v1, vs1, d1, ds1, p1, q1, rfl, rfl, rfl, h1, r1⟩ := trodAll_cons r0
  obtain ⟨v2, vs2, d2, ds2, p2, q2, rfl, rfl, rfl, h2, r2⟩ := trodAll_cons r1
  obtain ⟨rfl, rfl, rfl⟩ := trodAll_nil r2
  obtain rfl : args = #[v0, v1, v2] := by cases args; simp_all
  obtain ⟨rfl, rfl⟩ := trodVars_none hV
  clear hA0 hval0
  have hlt0 : ∀ x ∈ p0, x.block < W.heap.size := fun x hx => hW'.lt x (by simp [hx])
  have hk0 := h0
  obtain ⟨m0, A0, c0, rfl, hr0, hf0, hn0, ht0⟩ := Mop.viewM (hval 0 24 v0 rfl rfl) h0 hlt0
  have hlt1 : ∀ x ∈ p1, x.block < W.heap.size := fun x hx => hW'.lt x (by simp [hx])
  have hk1 := h1
  obtain ⟨m1, A1, c1, rfl, hr1, hf1, hn1, ht1⟩ := Mop.viewM (hval 1 24 v1 rfl rfl) h1 hlt1
  obtain ⟨a2, rfl, rfl, rfl, w2⟩ := open_int Tryd.underlying3 (hval 2 3 v2 rfl rfl) h2
  simp only [List.append_nil] at hW'
  refine (walk W (Mop.table hL) m0 A0 c0 hr0 hf0 hn0 ht0 m1 A1 c1 hr1 hf1 hn1 ht1 a2 (Pop.fits_of w2)).mono fun e W' ⟨he, hg⟩ => ?_
  subst he
  exact ⟨_, rfl, _, _, _, [], _, [], hW', (trodAll_cons_mk (shut_bool Tryd.underlying4 _) trodAll_mk0), (trodAll_cons_mk (Below.trod Pop.laidOut (by kernel_rfl) (of_decide_eq_true (by kernel_rfl)) hk0 hg hlt0) (trodAll_cons_mk (Below.trod Pop.laidOut (by kernel_rfl) (of_decide_eq_true (by kernel_rfl)) hk1 hg hlt1) (trodAll_cons_mk (shut_int Tryd.underlying3 w2) trodAll_mk0))), rfl, hg.frame _, fun h => by cases h⟩

theorem laid_met (os : Os) : laidMet Tryd.prog Rows.messageWritesRow.laid ((Mop.laidWorld os).forCall (fun _ _ => 0) ⟨#[], #[Value.agg #[.int .i64 0, .slice none 0 0, .string ⟨#[]⟩], Value.agg #[.int .i64 0, .slice none 0 0, .string ⟨#[]⟩], Value.int .i64 0], []⟩).memory :=
  laidMet_of_run' 8 (by kernel_rfl) (by kernel_rfl)
theorem reads (os : Os) {H : Type} (enc : TypeId × Value → H) : ∃ places, DataW.whole enc Tryd.prog ((Mop.laidWorld os).forCall (fun _ _ => 0) ⟨#[], #[Value.agg #[.int .i64 0, .slice none 0 0, .string ⟨#[]⟩], Value.agg #[.int .i64 0, .slice none 0 0, .string ⟨#[]⟩], Value.int .i64 0], []⟩).memory Tryd.f3.params.toList Rows.messageWritesSpec.vars false #[Value.agg #[.int .i64 0, .slice none 0 0, .string ⟨#[]⟩], Value.agg #[.int .i64 0, .slice none 0 0, .string ⟨#[]⟩], Value.int .i64 0].toList 8 = some ([.agg [.lit (.int .i64 0), .nil, .lit (.string [])], .agg [.lit (.int .i64 0), .nil, .lit (.string [])], .lit (.int .i64 0)], [], places) :=
  ⟨[], by kernel_rfl⟩

set_option maxRecDepth 100000 in
theorem lifted (os : Os) (started : os.Started) (H : Type) (enc : TypeId × Value → H) (F : Stop.Interp) :
    ReturnsInHanded {} Tryd.checked os 3 .any ((OpenSpec.ofChange Rows.messageWritesSpec).preRow enc Tryd.prog Tryd.f3 Rows.messageWritesRow.domain false Rows.messageWritesRow.laid) (((OpenSpec.ofChange Rows.messageWritesSpec).at F).post enc Tryd.prog Tryd.f3 false true false false) := by
  obtain ⟨places, hx⟩ := reads os enc
  refine returnsInHanded_of_row (C := Tryd.checked) (s := OpenSpec.ofChange Rows.messageWritesSpec) own started (by kernel_rfl) Tryd.func3
    (witness_row_at (enc := enc) (C := Tryd.checked) false (Mop.laidWorld os) #[Value.agg #[.int .i64 0, .slice none 0 0, .string ⟨#[]⟩], Value.agg #[.int .i64 0, .slice none 0 0, .string ⟨#[]⟩], Value.int .i64 0] rfl (by kernel_rfl) (by kernel_rfl) (by kernel_rfl)
      (OpenSpec.preRow_of_cond 8 hx (by kernel_rfl) (fun k hk => by cases hk) (by kernel_rfl) (laid_met os))) ?_
  intro W base args ds gs before hval hW _ _ _ hL _ _
  exact contract H enc W base args ds gs before hval hW hL

theorem said : Rows.MessageWritesSaid :=
  OpenClaim.holds_of_cond 3 Tryd.f3 rfl rfl rfl rfl rfl rfl rfl ⟨rfl, rfl, rfl, rfl, rfl⟩ rfl rfl rfl rfl rfl (by kernel_rfl) Tryd.func3 (by kernel_rfl)
    (of_decide_eq_true (by kernel_rfl)) (by unfold Func.isWrapper; first | (rw [if_pos (by decide +kernel)]; kernel_rfl) | (rw [if_neg (by decide +kernel)]; exact ⟨rfl, rfl⟩))
    (fun os started H enc _ F => by rw [OpenClaim.pre_eq_preRow]; exact lifted os started H enc F)
/-- No parameter wants a stand-in; the program's own looks are off: what the card asks. -/
theorem plain (f : FuncId) (fn : Func) (hf : Tryd.pinned.checked.prog.funcNamed "barrow/barrowlaw12.MessageWrites" = some f) (hfn : Tryd.pinned.checked.prog.funcs[f]? = some fn) :
    false = Tryd.pinned.checked.prog.looks [] ∧ ∀ (j : Nat) t, fn.params[j]? = some t → Tryd.pinned.checked.prog.wantsStandIn t = false := by
  obtain rfl : f = 3 := Option.some.inj ((show Tryd.prog.funcNamed "barrow/barrowlaw12.MessageWrites" = some 3 by kernel_rfl).symm.trans hf) |>.symm
  obtain rfl : fn = Tryd.f3 := (Option.some.inj (Tryd.func3.symm.trans hfn)).symm
  refine ⟨by kernel_rfl, fun j t ht => ?_⟩
  rw [Tryd.params3] at ht
  have hm : t ∈ [24, 24, 3] := by simpa using Array.mem_of_getElem? ht
  have hall : ([24, 24, 3].all fun u => !Tryd.prog.wantsStandIn u) = true := by kernel_rfl
  exact (show Tryd.prog.wantsStandIn t = false by simpa using List.all_eq_true.1 hall t hm)
/-- The given statement. -/
theorem proved : Rows.MessageWritesCardSaid :=
  Claim7.holds_tied_plain_at .later [] _ _ _ _ said (fun _ h => by cases h) (by kernel_rfl) (fun _ h => by cases h) messageWrites_row_tie rfl ⟨rfl, rfl⟩ (by kernel_rfl) rfl plain (by kernel_rfl)
#print axioms proved
end Go.Proofs.YtadpajkjjmdcnaaDoor.messageWrites
