/-
  For every bytes, every number, text and row the law PackWrites answers true: what is written behind them is what the document says, in new memory, and they stand as they did; no condition beyond the types'.
-/
import Derived.Test.YtgandkgcnackkaaLnt
import Derived.Test.YtgandkgcnackkaaOpen
import Derived.Test.YtgandkgcnackkaaOpw
import Derived.Deep.RegionHeld3
import Derived.WalkKit
import Derived.ProofKit
import Derived.OpenShut
namespace Go.Proofs.Ytgandkgcnackkaa.packWrites
open Go.ChangeShapes Go.WideShapes Go.ChangeAt Go.RowKit
set_option linter.unusedVariables false

theorem own : ownKnob Try.prog.godebug = none := by kernel_rfl

open Con Mth Mem

theorem own_cell {w : World} {base g c : Nat} {l : List Int} (h : Own w base .u8 5 (some ⟨g, 0, none⟩) c l) {k : Nat} (hk : k < l.length) : ∃ x, w.cell? ⟨g, k, none⟩ = some (.int .u8 x) := by
  refine ⟨l[k], ?_⟩
  have := h.cells (g := g) rfl k _ (vs_at (List.getElem?_eq_getElem hk))
  rw [add_none, Nat.zero_add] at this
  exact this
theorem own_frozen {w : World} {base g c : Nat} {l : List Int} (h : Own w base .u8 5 (some ⟨g, 0, none⟩) c l) (k : Nat) : w.frozen? ⟨g, k, none⟩ = false := by
  rcases h.2 with ⟨hv, _⟩ | ⟨g', cap, cur, hv, _, hg, _⟩
  · cases hv
  · injection hv with h1 _ _
    injection h1 with h1
    injection h1 with h1 _ _
    subst h1
    simp [World.frozen?, hg]
theorem own_set {w : World} {base g c : Nat} {l : List Int} (h : Own w base .u8 5 (some ⟨g, 0, none⟩) c l) (k : Nat) (x : Int) : Own (w.setCell ⟨g, k, none⟩ (.int .u8 x)) base .u8 5 (some ⟨g, 0, none⟩) c (l.set k x) := by
  rcases h.2 with ⟨hv, _⟩ | ⟨g', cap, cur, hv, hb, hg, hn, hm, hs, ht⟩
  · cases hv
  · injection hv with h1 _ h3
    injection h1 with h1
    injection h1 with h1 _ _
    subst h1; subst h3
    unfold Own
    rw [List.length_set]
    refine ⟨by simp [vs], .inr ⟨g, c, cur.setIfInBounds k (.int .u8 x), rfl, hb, by simp [World.setCell, Array.getElem?_modify, hg], hn, hm, by simpa using hs, ?_⟩⟩
    rw [Array.toList_setIfInBounds, List.take_set, ht]
    simp [vs, List.map_set]
theorem own_other {w : World} {base g g' k c : Nat} {l : List Int} (h : Own w base .u8 5 (some ⟨g, 0, none⟩) c l) (hne : g ≠ g') (v : Value) : Own (w.setCell ⟨g', k, none⟩ v) base .u8 5 (some ⟨g, 0, none⟩) c l :=
  own_far h fun j hj => by
    have e : g = j := by injection hj
    subst e
    exact Below.heap_setCell w _ _ _ hne

theorem conv_later {w w' : World} {A : Option Addr} {l : List Int} {c : Nat} (hr : Rd .u8 w w.heap.size A l) (hb : Below w.heap.size w w') : Sem.run Try.prog (convert 22 9 (.slice A l.length c)) w' = .ok (.string (strOfNums l)) w' :=
  conv c (hr.below hb (Nat.le_refl _))
theorem below_drew (w : World) : Below w.heap.size w w.drew := ⟨rfl, rfl, rfl, Nat.le_refl _, fun _ _ => rfl⟩
theorem below_more {w w1 w2 : World} (h : Below w.heap.size w w1) (k : Below w1.heap.size w1 w2) : Below w.heap.size w w2 := h.trans (k.mono h.size)

set_option maxRecDepth 100000 in
set_option maxHeartbeats 4000000 in
theorem inner (w : World) (A : Option Addr) (c : Nat) (f : List Int) (n : Int) (s : ByteArray) (A' : Option Addr) (c' : Nat) (l : List Int)
    (hr : Rd .u8 w w.heap.size A f) (hfb : Byt f) (hn0 : -9223372036854775808 ≤ n) (hn1 : n ≤ 9223372036854775807) (hr' : Rd .i64 w w.heap.size A' l) (hx : Nums l)
    (h1 : (f.length : Int) + s.size ≤ 2048) (h2 : (l.length : Int) ≤ 300) :
    Calls Try.prog 3 #[.slice A f.length c, .int .i64 n, .string s, .slice A' l.length c'] w fun e w' => e = .returned (.bool true) ∧ Below w.heap.size w w' := by
  have h1' : decide ((2048 : Int) < f.length + s.size) = false := by simp; omega
  have h2' : decide ((300 : Int) < l.length) = false := by simp; omega
  have HR := Lib.hid hr; have HR' := Lib.hid hr'; have HX := Lib.hid hx; have HFB := Lib.hid hfb
  clear hr hr' hx hfb
  go_enter Try.func3, Try.ntmps3
  go_wp2_with (first
    | ((with_reducible refine (small_any _).mono ?_); rintro e w1 ⟨rfl, hb1⟩; have HR1 := Lib.hid (HR.out.below hb1 (Nat.le_refl _)); have hz1 := hb1.size; have HB1 := Lib.hid hb1; clear hb1)
    | ((with_reducible refine (lent_any A c f _ w.heap.size HR1.out hz1 (by omega)).mono ?_); rintro e w2 ⟨g, rfl, hg, HA2, HB2⟩; have HI2 := Lib.hid HA2.out.rd; have hg2 := HA2.out.lt)
    | ((with_reducible refine (uint_any (some ⟨g, 0, none⟩) (f.length + 1) f n _ (g + 1) HI2.out (by omega) (by omega) hn0 hn1).mono ?_); rintro e w3 ⟨l3, A3, c3, HL3, rfl, HO3, HB3⟩; have HA3 := Lib.hid (HA2.out.below HB3.out hg2); have HI3 := Lib.hid HA3.out.rd; have hg3 := HA3.out.lt)
    | ((with_reducible refine (int_any (some ⟨g, 0, none⟩) (f.length + 1) f n _ (g + 1) HI3.out (by omega) (by omega) hn0 hn1).mono ?_); rintro e w4 ⟨l4, A4, c4, HL4, rfl, HO4, HB4⟩; have HA4 := Lib.hid (HA3.out.below HB4.out hg3); have HI4 := Lib.hid HA4.out.rd; have hg4 := HA4.out.lt)
    | ((with_reducible refine (text_any (some ⟨g, 0, none⟩) (f.length + 1) f s _ (g + 1) HI4.out (by omega) (by omega) (by omega)).mono ?_); rintro e w5 ⟨l5, A5, c5, HL5, rfl, HO5, HB5⟩; have HA5 := Lib.hid (HA4.out.below HB5.out hg4); have HI5 := Lib.hid HA5.out.rd; have hg5 := HA5.out.lt; have HB05 := Lib.hid (below_more (below_more (below_more (below_more HB1.out HB2.out) HB3.out) HB4.out) HB5.out); have HR5' := Lib.hid (HR'.out.below HB05.out (Nat.le_refl _)); have hz5 := HB05.out.size)
    | ((with_reducible refine (ints_any (some ⟨g, 0, none⟩) (f.length + 1) f A' c' l _ (g + 1) w.heap.size HI5.out (by omega) (by omega) HR5'.out hz5 HX.out h2).mono ?_); rintro e w6 ⟨l6, A6, c6, HL6, rfl, HO6, HB6⟩; have HA6 := Lib.hid (HA5.out.below HB6.out hg5); have hg6 := HA6.out.lt; have HB06 := Lib.hid (below_more HB05.out HB6.out); have HR6 := Lib.hid (HR.out.below HB06.out (Nat.le_refl _)); have hz6 := HB06.out.size)
    | ((with_reducible refine (kept_any A c f g _ w.heap.size HR6.out (by omega) HA6.out).mono ?_); rintro e w' ⟨rfl, rfl⟩))
  have HX6 := Lib.hid (Rd.of_own (HO3.out.below (below_more (below_more HB4.out HB5.out) HB6.out) (Nat.le_refl _)))
  have HY6 := Lib.hid (Rd.of_own (HO4.out.below (below_more HB5.out HB6.out) (Nat.le_refl _)))
  have HZ6 := Lib.hid (Rd.of_own (HO5.out.below HB6.out (Nat.le_refl _)))
  have HW6 := Lib.hid (Rd.of_own HO6.out)
  have HRd : Hid (Rd .u8 w6.drew w.heap.size A f) := HR6
  have HR6' := Lib.hid (HR'.out.below HB06.out (Nat.le_refl _))
  have HRd' : Hid (Rd .i64 w6.drew w.heap.size A' l) := HR6'
  have hzd : w.heap.size ≤ w6.drew.heap.size := hz6
  refine wp_region_noPanic ?_
  refine wp_region_held_drew (S := fun w' => Below w6.heap.size w6 w') (by kernel_rfl) (below_drew w6) (fun _ => ?_)
  have HCd := Lib.hid (below_drew w6)
  refine wpAnyH_take (i := 0) (oi := ⟨some 48, Op.move (Operand.tmp 11), 22, _, _, none⟩) (v := ?v0) rfl (by kernel_rfl) (by kernel_rfl) (by kernel_rfl) (fun _ _ _ h => h) (Or.inl ⟨by rfl, ?hy0⟩) HCd.out ?rest0
  case hy0 => (intro wz hSw; go_simp <;> with_reducible rfl)
  (try simp only [Act.put, List.setIfInBounds_toArray, List.set_cons_zero, List.set_cons_succ])
  refine wpAnyH_take (i := 1) (oi := ⟨some 49, Op.convert 22 9 (Operand.tmp 48), 9, _, _, none⟩) (v := ?v1) rfl (by kernel_rfl) (by kernel_rfl) (by kernel_rfl) (fun _ _ _ h => h) (Or.inl ⟨by rfl, ?hy1⟩) HCd.out ?rest1
  case hy1 => (intro wz hSw; have hz := conv_later (c := c3) HX6.out hSw; go_simp <;> with_reducible rfl)
  (try simp only [Act.put, List.setIfInBounds_toArray, List.set_cons_zero, List.set_cons_succ])
  refine wpAnyH_take (i := 2) (oi := ⟨some 50, Op.move (Operand.tmp 0), 22, _, _, none⟩) (v := ?v2) rfl (by kernel_rfl) (by kernel_rfl) (by kernel_rfl) (fun _ _ _ h => h) (Or.inl ⟨by rfl, ?hy2⟩) HCd.out ?rest2
  case hy2 => (intro wz hSw; go_simp <;> with_reducible rfl)
  (try simp only [Act.put, List.setIfInBounds_toArray, List.set_cons_zero, List.set_cons_succ])
  refine wpAnyH_take (i := 3) (oi := ⟨some 51, Op.move (Operand.tmp 1), 3, _, _, none⟩) (v := ?v3) rfl (by kernel_rfl) (by kernel_rfl) (by kernel_rfl) (fun _ _ _ h => h) (Or.inl ⟨by rfl, ?hy3⟩) HCd.out ?rest3
  case hy3 => (intro wz hSw; go_simp <;> with_reducible rfl)
  (try simp only [Act.put, List.setIfInBounds_toArray, List.set_cons_zero, List.set_cons_succ])
  refine wpAnyH_ready (rs := [4]) (by kernel_rfl) (by simp) ?_
  refine AllReadyH.cons (o := ⟨some 52, Op.call { callee := Callee.value (Operand.func 14), args := #[Operand.tmp 50, Operand.tmp 51], argTypes := #[22, 3] }, 22, _, _, none⟩) rfl (fun K hK => ?_) AllReadyH.nil
  go_simp
  (with_reducible refine (ruint_any A c f n _ w.heap.size HRd.out hzd (by omega) hn0 hn1).mono ?_); rintro e w7 ⟨l7, A7, c7, HL7, rfl, HO7, HB7⟩; have HC7 := Lib.hid (below_more (below_drew w6) HB7.out); have hcv7 := conv c7 (Rd.of_own HO7.out); have he7 := eq_same (HL3.out.trans HL7.out.symm); have HR7 := Lib.hid (HRd.out.below HB7.out hzd); have hz7 := Nat.le_trans hzd HB7.out.size
  refine hK.out _ _ HC7.out (fun _ => ?_)
  clear hK K
  (try simp only [Act.put, List.setIfInBounds_toArray, List.set_cons_zero, List.set_cons_succ])
  refine wpAnyH_ready (rs := [5]) (by kernel_rfl) (by simp) ?_
  refine AllReadyH.cons (o := ⟨some 53, Op.convert 22 9 (Operand.tmp 52), 9, _, _, none⟩) rfl (fun K hK => ?_) AllReadyH.nil
  go_simp
  refine hK.out _ _ HC7.out (fun _ => ?_)
  clear hK K
  (try simp only [Act.put, List.setIfInBounds_toArray, List.set_cons_zero, List.set_cons_succ])
  refine wpAnyH_take (i := 6) (oi := ⟨some 54, Op.binOp BinOp.eql 9 (Operand.tmp 49) (Operand.tmp 53) 9, 4, _, _, none⟩) (v := ?v6) rfl (by kernel_rfl) (by kernel_rfl) (by kernel_rfl) (fun _ _ _ h => h) (Or.inl ⟨by rfl, ?hy6⟩) HC7.out ?rest6
  case hy6 => (intro wz hSw; go_simp <;> with_reducible rfl)
  (try simp only [Act.put, List.setIfInBounds_toArray, List.set_cons_zero, List.set_cons_succ])
  refine wpAnyH_take (i := 7) (oi := ⟨some 55, Op.move (Operand.tmp 54), 4, _, _, none⟩) (v := ?v7) rfl (by kernel_rfl) (by kernel_rfl) (by kernel_rfl) (fun _ _ _ h => h) (Or.inl ⟨by rfl, ?hy7⟩) HC7.out ?rest7
  case hy7 => (intro wz hSw; go_simp <;> with_reducible rfl)
  (try simp only [Act.put, List.setIfInBounds_toArray, List.set_cons_zero, List.set_cons_succ])
  refine wpAnyH_take (i := 8) (oi := ⟨some 56, Op.move (Operand.tmp 12), 22, _, _, some (7, true)⟩) (v := ?v8) rfl (by kernel_rfl) (by kernel_rfl) (by kernel_rfl) (fun _ _ _ h => h) (Or.inl ⟨by rfl, ?hy8⟩) HC7.out ?rest8
  case hy8 => (intro wz hSw; go_simp <;> with_reducible rfl)
  (try simp only [Act.put, List.setIfInBounds_toArray, List.set_cons_zero, List.set_cons_succ])
  refine wpAnyH_take (i := 9) (oi := ⟨some 57, Op.convert 22 9 (Operand.tmp 56), 9, _, _, some (7, true)⟩) (v := ?v9) rfl (by kernel_rfl) (by kernel_rfl) (by kernel_rfl) (fun _ _ _ h => h) (Or.inl ⟨by rfl, ?hy9⟩) HC7.out ?rest9
  case hy9 => (intro wz hSw; have hz := conv_later (c := c4) HY6.out hSw; go_simp <;> with_reducible rfl)
  (try simp only [Act.put, List.setIfInBounds_toArray, List.set_cons_zero, List.set_cons_succ])
  refine wpAnyH_take (i := 10) (oi := ⟨some 58, Op.move (Operand.tmp 0), 22, _, _, some (7, true)⟩) (v := ?v10) rfl (by kernel_rfl) (by kernel_rfl) (by kernel_rfl) (fun _ _ _ h => h) (Or.inl ⟨by rfl, ?hy10⟩) HC7.out ?rest10
  case hy10 => (intro wz hSw; go_simp <;> with_reducible rfl)
  (try simp only [Act.put, List.setIfInBounds_toArray, List.set_cons_zero, List.set_cons_succ])
  refine wpAnyH_take (i := 11) (oi := ⟨some 59, Op.move (Operand.tmp 1), 3, _, _, some (7, true)⟩) (v := ?v11) rfl (by kernel_rfl) (by kernel_rfl) (by kernel_rfl) (fun _ _ _ h => h) (Or.inl ⟨by rfl, ?hy11⟩) HC7.out ?rest11
  case hy11 => (intro wz hSw; go_simp <;> with_reducible rfl)
  (try simp only [Act.put, List.setIfInBounds_toArray, List.set_cons_zero, List.set_cons_succ])
  refine wpAnyH_ready (rs := [12]) (by kernel_rfl) (by simp) ?_
  refine AllReadyH.cons (o := ⟨some 60, Op.call { callee := Callee.value (Operand.func 15), args := #[Operand.tmp 58, Operand.tmp 59], argTypes := #[22, 3] }, 22, _, _, some (7, true)⟩) rfl (fun K hK => ?_) AllReadyH.nil
  go_simp
  (with_reducible refine (rint_any A c f n _ w.heap.size HR7.out hz7 (by omega) hn0 hn1).mono ?_); rintro e w8 ⟨l8, A8, c8, HL8, rfl, HO8, HB8⟩; have HC8 := Lib.hid (below_more HC7.out HB8.out); have hcv8 := conv c8 (Rd.of_own HO8.out); have he8 := eq_same (HL4.out.trans HL8.out.symm); have HR8 := Lib.hid (HR7.out.below HB8.out hz7); have hz8 := Nat.le_trans hz7 HB8.out.size
  refine hK.out _ _ HC8.out (fun _ => ?_)
  clear hK K
  (try simp only [Act.put, List.setIfInBounds_toArray, List.set_cons_zero, List.set_cons_succ])
  refine wpAnyH_ready (rs := [13]) (by kernel_rfl) (by simp) ?_
  refine AllReadyH.cons (o := ⟨some 61, Op.convert 22 9 (Operand.tmp 60), 9, _, _, some (7, true)⟩) rfl (fun K hK => ?_) AllReadyH.nil
  go_simp
  refine hK.out _ _ HC8.out (fun _ => ?_)
  clear hK K
  (try simp only [Act.put, List.setIfInBounds_toArray, List.set_cons_zero, List.set_cons_succ])
  refine wpAnyH_take (i := 14) (oi := ⟨some 62, Op.binOp BinOp.eql 9 (Operand.tmp 57) (Operand.tmp 61) 9, 4, _, _, some (7, true)⟩) (v := ?v14) rfl (by kernel_rfl) (by kernel_rfl) (by kernel_rfl) (fun _ _ _ h => h) (Or.inl ⟨by rfl, ?hy14⟩) HC8.out ?rest14
  case hy14 => (intro wz hSw; go_simp <;> with_reducible rfl)
  (try simp only [Act.put, List.setIfInBounds_toArray, List.set_cons_zero, List.set_cons_succ])
  refine wpAnyH_take (i := 15) (oi := ⟨some 63, Op.pick (Operand.tmp 55) (Operand.tmp 62) (Operand.const (Value.bool false)), 4, _, _, none⟩) (v := ?v15) rfl (by kernel_rfl) (by kernel_rfl) (by kernel_rfl) (fun _ _ _ h => h) (Or.inl ⟨by rfl, ?hy15⟩) HC8.out ?rest15
  case hy15 => (intro wz hSw; go_simp <;> with_reducible rfl)
  (try simp only [Act.put, List.setIfInBounds_toArray, List.set_cons_zero, List.set_cons_succ])
  refine wpAnyH_take (i := 16) (oi := ⟨some 64, Op.move (Operand.tmp 63), 4, _, _, none⟩) (v := ?v16) rfl (by kernel_rfl) (by kernel_rfl) (by kernel_rfl) (fun _ _ _ h => h) (Or.inl ⟨by rfl, ?hy16⟩) HC8.out ?rest16
  case hy16 => (intro wz hSw; go_simp <;> with_reducible rfl)
  (try simp only [Act.put, List.setIfInBounds_toArray, List.set_cons_zero, List.set_cons_succ])
  refine wpAnyH_take (i := 17) (oi := ⟨some 65, Op.move (Operand.tmp 13), 22, _, _, some (16, true)⟩) (v := ?v17) rfl (by kernel_rfl) (by kernel_rfl) (by kernel_rfl) (fun _ _ _ h => h) (Or.inl ⟨by rfl, ?hy17⟩) HC8.out ?rest17
  case hy17 => (intro wz hSw; go_simp <;> with_reducible rfl)
  (try simp only [Act.put, List.setIfInBounds_toArray, List.set_cons_zero, List.set_cons_succ])
  refine wpAnyH_take (i := 18) (oi := ⟨some 66, Op.convert 22 9 (Operand.tmp 65), 9, _, _, some (16, true)⟩) (v := ?v18) rfl (by kernel_rfl) (by kernel_rfl) (by kernel_rfl) (fun _ _ _ h => h) (Or.inl ⟨by rfl, ?hy18⟩) HC8.out ?rest18
  case hy18 => (intro wz hSw; have hz := conv_later (c := c5) HZ6.out hSw; go_simp <;> with_reducible rfl)
  (try simp only [Act.put, List.setIfInBounds_toArray, List.set_cons_zero, List.set_cons_succ])
  refine wpAnyH_take (i := 19) (oi := ⟨some 67, Op.move (Operand.tmp 0), 22, _, _, some (16, true)⟩) (v := ?v19) rfl (by kernel_rfl) (by kernel_rfl) (by kernel_rfl) (fun _ _ _ h => h) (Or.inl ⟨by rfl, ?hy19⟩) HC8.out ?rest19
  case hy19 => (intro wz hSw; go_simp <;> with_reducible rfl)
  (try simp only [Act.put, List.setIfInBounds_toArray, List.set_cons_zero, List.set_cons_succ])
  refine wpAnyH_take (i := 20) (oi := ⟨some 68, Op.move (Operand.tmp 2), 9, _, _, some (16, true)⟩) (v := ?v20) rfl (by kernel_rfl) (by kernel_rfl) (by kernel_rfl) (fun _ _ _ h => h) (Or.inl ⟨by rfl, ?hy20⟩) HC8.out ?rest20
  case hy20 => (intro wz hSw; go_simp <;> with_reducible rfl)
  (try simp only [Act.put, List.setIfInBounds_toArray, List.set_cons_zero, List.set_cons_succ])
  refine wpAnyH_ready (rs := [21]) (by kernel_rfl) (by simp) ?_
  refine AllReadyH.cons (o := ⟨some 69, Op.call { callee := Callee.value (Operand.func 16), args := #[Operand.tmp 67, Operand.tmp 68], argTypes := #[22, 9] }, 22, _, _, some (16, true)⟩) rfl (fun K hK => ?_) AllReadyH.nil
  go_simp
  (with_reducible refine (rtext_any A c f s _ w.heap.size HR8.out hz8 (by omega) (by omega)).mono ?_); rintro e w9 ⟨l9, A9, c9, HL9, rfl, HO9, HB9⟩; have HC9 := Lib.hid (below_more HC8.out HB9.out); have hcv9 := conv c9 (Rd.of_own HO9.out); have he9 := eq_same (HL5.out.trans HL9.out.symm); have HR9 := Lib.hid (HR8.out.below HB9.out hz8); have hz9 := Nat.le_trans hz8 HB9.out.size; have HR9' := Lib.hid (((HRd'.out.below HB7.out hzd).below HB8.out hz7).below HB9.out hz8)
  refine hK.out _ _ HC9.out (fun _ => ?_)
  clear hK K
  (try simp only [Act.put, List.setIfInBounds_toArray, List.set_cons_zero, List.set_cons_succ])
  refine wpAnyH_ready (rs := [22]) (by kernel_rfl) (by simp) ?_
  refine AllReadyH.cons (o := ⟨some 70, Op.convert 22 9 (Operand.tmp 69), 9, _, _, some (16, true)⟩) rfl (fun K hK => ?_) AllReadyH.nil
  go_simp
  refine hK.out _ _ HC9.out (fun _ => ?_)
  clear hK K
  (try simp only [Act.put, List.setIfInBounds_toArray, List.set_cons_zero, List.set_cons_succ])
  refine wpAnyH_take (i := 23) (oi := ⟨some 71, Op.binOp BinOp.eql 9 (Operand.tmp 66) (Operand.tmp 70) 9, 4, _, _, some (16, true)⟩) (v := ?v23) rfl (by kernel_rfl) (by kernel_rfl) (by kernel_rfl) (fun _ _ _ h => h) (Or.inl ⟨by rfl, ?hy23⟩) HC9.out ?rest23
  case hy23 => (intro wz hSw; go_simp <;> with_reducible rfl)
  (try simp only [Act.put, List.setIfInBounds_toArray, List.set_cons_zero, List.set_cons_succ])
  refine wpAnyH_take (i := 24) (oi := ⟨some 72, Op.pick (Operand.tmp 64) (Operand.tmp 71) (Operand.const (Value.bool false)), 4, _, _, none⟩) (v := ?v24) rfl (by kernel_rfl) (by kernel_rfl) (by kernel_rfl) (fun _ _ _ h => h) (Or.inl ⟨by rfl, ?hy24⟩) HC9.out ?rest24
  case hy24 => (intro wz hSw; go_simp <;> with_reducible rfl)
  (try simp only [Act.put, List.setIfInBounds_toArray, List.set_cons_zero, List.set_cons_succ])
  refine wpAnyH_take (i := 25) (oi := ⟨some 73, Op.move (Operand.tmp 72), 4, _, _, none⟩) (v := ?v25) rfl (by kernel_rfl) (by kernel_rfl) (by kernel_rfl) (fun _ _ _ h => h) (Or.inl ⟨by rfl, ?hy25⟩) HC9.out ?rest25
  case hy25 => (intro wz hSw; go_simp <;> with_reducible rfl)
  (try simp only [Act.put, List.setIfInBounds_toArray, List.set_cons_zero, List.set_cons_succ])
  refine wpAnyH_take (i := 26) (oi := ⟨some 74, Op.move (Operand.tmp 14), 22, _, _, some (25, true)⟩) (v := ?v26) rfl (by kernel_rfl) (by kernel_rfl) (by kernel_rfl) (fun _ _ _ h => h) (Or.inl ⟨by rfl, ?hy26⟩) HC9.out ?rest26
  case hy26 => (intro wz hSw; go_simp <;> with_reducible rfl)
  (try simp only [Act.put, List.setIfInBounds_toArray, List.set_cons_zero, List.set_cons_succ])
  refine wpAnyH_take (i := 27) (oi := ⟨some 75, Op.convert 22 9 (Operand.tmp 74), 9, _, _, some (25, true)⟩) (v := ?v27) rfl (by kernel_rfl) (by kernel_rfl) (by kernel_rfl) (fun _ _ _ h => h) (Or.inl ⟨by rfl, ?hy27⟩) HC9.out ?rest27
  case hy27 => (intro wz hSw; have hz := conv_later (c := c6) HW6.out hSw; go_simp <;> with_reducible rfl)
  (try simp only [Act.put, List.setIfInBounds_toArray, List.set_cons_zero, List.set_cons_succ])
  refine wpAnyH_take (i := 28) (oi := ⟨some 76, Op.move (Operand.tmp 0), 22, _, _, some (25, true)⟩) (v := ?v28) rfl (by kernel_rfl) (by kernel_rfl) (by kernel_rfl) (fun _ _ _ h => h) (Or.inl ⟨by rfl, ?hy28⟩) HC9.out ?rest28
  case hy28 => (intro wz hSw; go_simp <;> with_reducible rfl)
  (try simp only [Act.put, List.setIfInBounds_toArray, List.set_cons_zero, List.set_cons_succ])
  refine wpAnyH_take (i := 29) (oi := ⟨some 77, Op.move (Operand.tmp 3), 23, _, _, some (25, true)⟩) (v := ?v29) rfl (by kernel_rfl) (by kernel_rfl) (by kernel_rfl) (fun _ _ _ h => h) (Or.inl ⟨by rfl, ?hy29⟩) HC9.out ?rest29
  case hy29 => (intro wz hSw; go_simp <;> with_reducible rfl)
  (try simp only [Act.put, List.setIfInBounds_toArray, List.set_cons_zero, List.set_cons_succ])
  refine wpAnyH_ready (rs := [30]) (by kernel_rfl) (by simp) ?_
  refine AllReadyH.cons (o := ⟨some 78, Op.call { callee := Callee.value (Operand.func 17), args := #[Operand.tmp 76, Operand.tmp 77], argTypes := #[22, 23] }, 22, _, _, some (25, true)⟩) rfl (fun K hK => ?_) AllReadyH.nil
  go_simp
  (with_reducible refine (rints_any A c f A' c' l _ w.heap.size w.heap.size HR9.out hz9 (by omega) HR9'.out hz9 HX.out h2).mono ?_); rintro e w10 ⟨l10, A10, c10, HL10, rfl, HO10, HB10⟩; have HC10 := Lib.hid (below_more HC9.out HB10.out); have hcv10 := conv c10 (Rd.of_own HO10.out); have he10 := eq_same (HL6.out.trans HL10.out.symm)
  refine hK.out _ _ HC10.out (fun _ => ?_)
  clear hK K
  (try simp only [Act.put, List.setIfInBounds_toArray, List.set_cons_zero, List.set_cons_succ])
  refine wpAnyH_ready (rs := [31]) (by kernel_rfl) (by simp) ?_
  refine AllReadyH.cons (o := ⟨some 79, Op.convert 22 9 (Operand.tmp 78), 9, _, _, some (25, true)⟩) rfl (fun K hK => ?_) AllReadyH.nil
  go_simp
  refine hK.out _ _ HC10.out (fun _ => ?_)
  clear hK K
  (try simp only [Act.put, List.setIfInBounds_toArray, List.set_cons_zero, List.set_cons_succ])
  refine wpAnyH_take (i := 32) (oi := ⟨some 80, Op.binOp BinOp.eql 9 (Operand.tmp 75) (Operand.tmp 79) 9, 4, _, _, some (25, true)⟩) (v := ?v32) rfl (by kernel_rfl) (by kernel_rfl) (by kernel_rfl) (fun _ _ _ h => h) (Or.inl ⟨by rfl, ?hy32⟩) HC10.out ?rest32
  case hy32 => (intro wz hSw; go_simp <;> with_reducible rfl)
  (try simp only [Act.put, List.setIfInBounds_toArray, List.set_cons_zero, List.set_cons_succ])
  refine wpAnyH_take (i := 33) (oi := ⟨some 81, Op.pick (Operand.tmp 73) (Operand.tmp 80) (Operand.const (Value.bool false)), 4, _, _, none⟩) (v := ?v33) rfl (by kernel_rfl) (by kernel_rfl) (by kernel_rfl) (fun _ _ _ h => h) (Or.inl ⟨by rfl, ?hy33⟩) HC10.out ?rest33
  case hy33 => (intro wz hSw; go_simp <;> with_reducible rfl)
  (try simp only [Act.put, List.setIfInBounds_toArray, List.set_cons_zero, List.set_cons_succ])
  refine wpAnyH_take (i := 34) (oi := ⟨some 16, Op.assign (Operand.tmp 81), 4, _, _, none⟩) (v := ?v34) rfl (by kernel_rfl) (by kernel_rfl) (by kernel_rfl) (fun _ _ _ h => h) (Or.inl ⟨by rfl, ?hy34⟩) HC10.out ?rest34
  case hy34 => (intro wz hSw; go_simp <;> with_reducible rfl)
  (try simp only [Act.put, List.setIfInBounds_toArray, List.set_cons_zero, List.set_cons_succ])
  refine wpAnyH_done (by kernel_rfl) ?_ _
  refine NoPanic.normal ?_
  have HO3' := Lib.hid (HO3.out.below (below_more (below_more (below_more HB4.out HB5.out) HB6.out) HC10.out) (Nat.le_refl _))
  have HO4' := Lib.hid (HO4.out.below (below_more (below_more HB5.out HB6.out) HC10.out) (Nat.le_refl _))
  have hl3 : f.length + 1 ≤ l3.length := by rw [HL3.out, List.length_append]; have := dg_pos n.toNat; omega
  have hl4 : f.length + 1 ≤ l4.length := by rw [HL4.out, List.length_append]; have := dg_pos (sg n).toNat; omega
  obtain ⟨gx, rfl, hgx, hgx3, _⟩ := own_form HO3.out (by omega)
  obtain ⟨gy, rfl, hgy, _, _⟩ := own_form HO4.out (by omega)
  have hgxy : gx ≠ gy := by omega
  have hgyx : gy ≠ gx := by omega
  have hb3 := HB3.out.size
  have HA10 := Lib.hid (HA6.out.below HC10.out hg6)
  have HB010 := Lib.hid (below_more HB06.out HC10.out)
  have hz2 : w.heap.size ≤ w2.heap.size := Nat.le_trans hz1 HB2.out.size
  have HR10 := Lib.hid (HR.out.below HB010.out (Nat.le_refl _))
  clear he7 he8 he9 he10 hcv7 hcv8 hcv9 hcv10 hg5 hg4 hg3 hz5 hz6 hz7 hz8 hz9 hzd
  go_wp2
  go_loopg [17] f.length (fun q s17 wr => ∃ (k : Nat) (lx ly : List Int), k ≤ f.length ∧ q = f.length - k ∧ s17 = .int .i64 (k : Int) ∧ Hid (lx.length = l3.length) ∧ Hid (ly.length = l4.length) ∧ Hid (Own wr w2.heap.size .u8 5 (some ⟨gx, 0, none⟩) c3 lx) ∧ Hid (Own wr w3.heap.size .u8 5 (some ⟨gy, 0, none⟩) c4 ly) ∧ Hid (Below w2.heap.size w10 wr))
  case atStart => exact ⟨0, l3, l4, by omega, rfl, rfl, rfl, rfl, HO3', HO4', Lib.hid (Below.refl _ _)⟩
  case round =>
    obtain ⟨k, lx, ly, hk, rfl, rfl, HLX, HLY, HOX, HOY, HBr⟩ := hrel
    by_cases hlt : k < f.length
    · have hlt3 : k < l3.length := by omega
      have hlt4 : k < l4.length := by omega
      obtain ⟨x, hcx⟩ := own_cell HOX.out (k := k) (by rw [HLX.out]; omega)
      have hfx := own_frozen HOX.out k
      have HOY2 := Lib.hid (own_other (k := k) HOY.out hgyx (.int .u8 99))
      have HOX2 := Lib.hid (own_set HOX.out k 99)
      obtain ⟨y, hcy⟩ := own_cell HOY2.out (k := k) (by rw [HLY.out]; omega)
      have hfy := own_frozen HOY2.out k
      go_wp2
      go_roundg (f.length - (k + 1))
      case measure => omega
      case rel => exact ⟨k + 1, lx.set k 99, ly.set k 99, by omega, rfl, by go_num, Lib.hid (by rw [List.length_set]; exact HLX.out), Lib.hid (by rw [List.length_set]; exact HLY.out), Lib.hid (own_other HOX2.out hgxy _), Lib.hid (own_set HOY2.out k 99), Lib.hid ((HBr.out.setCell (p := ⟨gx, k, none⟩) hgx _).setCell (p := ⟨gy, k, none⟩) (by show w2.heap.size ≤ gy; omega) _)⟩
    · have hlt2 : decide (k < f.length) = false := by simpa using hlt
      have HAr := Lib.hid (HA10.out.below HBr.out hg2)
      have HRr := Lib.hid (HR10.out.below HBr.out hz2)
      by_cases hlt3 : k < l3.length
      · go_wp2_with ((with_reducible refine (kept_any A c f g _ w.heap.size HRr.out (by omega) HAr.out).mono ?_); rintro e w' ⟨rfl, rfl⟩)
        go_ret
        exact ⟨rfl, HB010.out.trans (HBr.out.mono hz2)⟩
      · omega

set_option maxRecDepth 100000 in
theorem big (w : World) (A : Option Addr) (c : Nat) (f : List Int) (n : Int) (s : ByteArray) (A' : Option Addr) (c' : Nat) (l : List Int)
    (hf : (f.length : Int) ≤ 140737488351232) (hs : (s.size : Int) ≤ 140737488351232) (hl : (l.length : Int) ≤ 140737488351232)
    (h : (2048 : Int) < f.length + s.size ∨ (300 : Int) < l.length) :
    Calls Try.prog 3 #[.slice A f.length c, .int .i64 n, .string s, .slice A' l.length c'] w fun e w' => e = .returned (.bool true) ∧ Below w.heap.size w w' := by
  by_cases h1 : (2048 : Int) < f.length + s.size
  · clear h
    go_enter Try.func3, Try.ntmps3
    go_wp2_with ((with_reducible refine (small_any _).mono ?_); rintro e w1 ⟨rfl, hb⟩; have HB := Lib.hid hb; clear hb)
    go_ret
    exact ⟨rfl, HB.out⟩
  · have h1' : decide ((2048 : Int) < f.length + s.size) = false := by simpa using h1
    have h2 : (300 : Int) < l.length := by omega
    clear h
    go_enter Try.func3, Try.ntmps3
    go_wp2_with ((with_reducible refine (small_any _).mono ?_); rintro e w1 ⟨rfl, hb⟩; have HB := Lib.hid hb; clear hb)
    go_ret
    exact ⟨rfl, HB.out⟩

theorem walk (w : World) (A : Option Addr) (c : Nat) (f : List Int) (hr : Rd .u8 w w.heap.size A f) (hfc : f.length ≤ c) (hf : (f.length : Int) ≤ 140737488351232) (hfb : Byt f)
    (n : Int) (hn : -9223372036854775808 ≤ n ∧ n ≤ 9223372036854775807) (s : ByteArray) (hs : (s.size : Int) ≤ 140737488351232)
    (A' : Option Addr) (c' : Nat) (l : List Int) (hr' : Rd .i64 w w.heap.size A' l) (hlc : l.length ≤ c') (hl : (l.length : Int) ≤ 140737488351232) (hx : ∀ x ∈ l, -9223372036854775808 ≤ x ∧ x ≤ 9223372036854775807) :
    Calls Try.prog 3 #[.slice A f.length c, .int .i64 n, .string s, .slice A' l.length c'] w fun e w' => e = .returned (.bool true) ∧ Below w.heap.size w w' := by
  by_cases h : (2048 : Int) < f.length + s.size ∨ (300 : Int) < l.length
  · exact big w A c f n s A' c' l hf hs hl h
  · exact inner w A c f n s A' c' l hr hfb hn.1 hn.2 hr' hx (by omega) (by omega)


set_option maxRecDepth 100000 in
theorem lifted (os : Os) (started : os.Started) (H : Type) (enc : TypeId × Value → H) :
    ReturnsInHanded {} Try.checked os 3 .any (Rows.packWritesSpec.pre6 enc Try.prog Try.f3 Rows.packWritesRow.domain false) (Rows.packWritesSpec.post enc Try.prog Try.f3 false true false false) := by
  refine returnsInHanded_of_change_sized (C := Try.checked) own started (by kernel_rfl) Try.func3
    (ChangeSpec.witness6 (enc := enc) (C := Try.checked) false ⟨#[], #[.slice none 0 0, .int .i64 0, .string ⟨#[]⟩, .slice none 0 0], []⟩ 8 (by kernel_rfl) (by kernel_rfl) (by kernel_rfl) (by kernel_rfl)) ?_
  intro W base args ds gs before hval0 hW hcnd hsz0 _
  have hval : ∀ (j : Nat) t v, Try.f3.params[j]? = some t → args[j]? = some v → Value.okWide Try.prog W .any base t v := hval0
  have hW' := hW
  obtain ⟨p, q, hA0, hV, rfl, hfz, hnd⟩ := hW
  have hA : DataW.TrodAll enc Try.prog W 0 (fun _ => true) true Try.f3.params.toList args.toList ds p := hA0
  rw [Try.params3] at hA hval
  obtain ⟨v0, vs0, d0, ds0, p0, q0, hargs, rfl, rfl, h0, r0⟩ := trodAll_cons hA
  obtain ⟨v1, vs1, d1, ds1, p1, q1, rfl, rfl, rfl, h1, r1⟩ := trodAll_cons r0
  obtain ⟨v2, vs2, d2, ds2, p2, q2, rfl, rfl, rfl, h2, r2⟩ := trodAll_cons r1
  obtain ⟨v3, vs3, d3, ds3, p3, q3, rfl, rfl, rfl, h3, r3⟩ := trodAll_cons r2
  obtain ⟨rfl, rfl, rfl⟩ := trodAll_nil r3
  obtain rfl : args = #[v0, v1, v2, v3] := by cases args; simp_all
  obtain ⟨rfl, rfl⟩ := trodVars_none hV
  clear hA0 hval0
  have hsz : (DataW.weightsEach Try.prog [22, 3, 9, 23] [d0, d1, d2, d3]).all (· ≤ reachBytes) = true := hsz0
  clear hsz0
  have z0 := fun A n c => Opw.lenB (A := A) (n := n) (c := c) (j := 0) (hval 0 22 v0 rfl rfl) h0 hsz rfl rfl
  have hlt0 : ∀ x ∈ p0, x.block < W.heap.size := fun x hx => hW'.lt x (by simp [hx])
  have hk0 := h0
  obtain ⟨A0, c0, l0, rfl, hr0, hc0, hl0, hx0⟩ := Open.viewB (hval 0 22 v0 rfl rfl) h0 hlt0
  obtain ⟨a1, rfl, rfl, rfl, w1⟩ := open_int Try.underlying3 (hval 1 3 v1 rfl rfl) h1
  obtain ⟨a2, rfl, rfl, rfl, w2⟩ := Go.ChangeMaps.open_string Try.underlying9 (hval 2 9 v2 rfl rfl) h2
  have z2 := Opw.lenT (j := 2) hsz rfl rfl
  have z3 := fun A n c => Opw.lenI (A := A) (n := n) (c := c) (j := 3) (hval 3 23 v3 rfl rfl) h3 hsz rfl rfl
  have hlt3 : ∀ x ∈ p3, x.block < W.heap.size := fun x hx => hW'.lt x (by simp [hx])
  have hk3 := h3
  obtain ⟨A3, c3, l3, rfl, hr3, hc3, hl3, hx3⟩ := Open.viewI (hval 3 23 v3 rfl rfl) h3 hlt3
  simp only [List.append_nil] at hW'
  refine (walk W A0 c0 l0 hr0 hc0 (z0 _ _ _ rfl) hx0 a1 (Open.fits_of w1) a2 z2 A3 c3 l3 hr3 hc3 (z3 _ _ _ rfl) hx3).mono fun e W' ⟨he, hg⟩ => ?_
  subst he
  exact ⟨_, rfl, _, _, _, [], _, [], hW', (trodAll_cons_mk (shut_bool Try.underlying4 _) trodAll_mk0), (trodAll_cons_mk (Below.trod Open.laidOut (by kernel_rfl) (of_decide_eq_true (by kernel_rfl)) hk0 hg hlt0) (trodAll_cons_mk (shut_int Try.underlying3 w1) (trodAll_cons_mk (Go.ChangeMaps.shut_string Try.underlying9 w2) (trodAll_cons_mk (Below.trod Open.laidOut (by kernel_rfl) (of_decide_eq_true (by kernel_rfl)) hk3 hg hlt3) trodAll_mk0)))), rfl, hg.frame _, fun h => by cases h⟩

theorem over : Rows.packWritesRow.holds Try.pinned (OpenSpec.ofChange Rows.packWritesSpec) :=
  OpenClaim.holds_of_wide 3 Try.f3 rfl rfl rfl rfl rfl rfl rfl ⟨rfl, rfl, rfl, rfl, rfl⟩ rfl rfl rfl rfl rfl (by kernel_rfl) Try.func3 (by kernel_rfl)
    (of_decide_eq_true (by kernel_rfl)) (by unfold Func.isWrapper; first | (rw [if_pos (by decide +kernel)]; kernel_rfl) | (rw [if_neg (by decide +kernel)]; exact ⟨rfl, rfl⟩))
    (fun os started H enc _ => lifted os started H enc)

/-- The given statement. -/
theorem proved : Rows.PackWritesSaid :=
  over
#print axioms proved
end Go.Proofs.Ytgandkgcnackkaa.packWrites
