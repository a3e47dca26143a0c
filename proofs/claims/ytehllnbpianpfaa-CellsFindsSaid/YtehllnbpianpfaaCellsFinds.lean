/-
  Near is just those that one finds by asking each, and a greater r finds no fewer: whatever pairs, whatever tile, whatever number; no condition.
-/
import Derived.Test.YtehllnbpianpfaaSml2
import Derived.Test.YtehllnbpianpfaaXyk
import Derived.Test.YtehllnbpianpfaaOpen
import Derived.Deep.Cut
import Derived.WalkKit
import Derived.ProofKit
import Derived.OpenShut
namespace Go.Proofs.Ytehllnbpianpfaa.cellsFinds
open Go.ChangeShapes Go.WideShapes Go.ChangeAt Go.RowKit Con Cll Go.Maps
set_option linter.unusedVariables false

theorem own : ownKnob Try.prog.godebug = none := by kernel_rfl

theorem split_at {L : List Un} {i : Nat} (hi : i < L.length) : L = L.take i ++ g L i :: L.drop (i + 1) := by
  have h1 : L.drop i = g L i :: L.drop (i + 1) := by
    rw [List.drop_eq_getElem_cons hi]
    congr 1
    simp [g, List.getD, List.getElem?_eq_getElem hi]
  rw [← h1, List.take_append_drop]
theorem all_get {L : List Un} {i : Nat} (hi : i < L.length) : (ids L (fun _ => true))[i]? = some (g L i).id := by
  unfold ids
  rw [List.filter_eq_self.2 (fun _ _ => rfl), List.getElem?_map, g_at hi]
  rfl
theorem all_len (L : List Un) : (ids L (fun _ => true)).length = L.length := by simp [ids]
/-- How many of the first i say yes. -/
def cnt (L : List Un) (P : Un → Bool) (i : Nat) : Nat := ((L.take i).filter P).length
theorem cnt_zero (L : List Un) (P : Un → Bool) : cnt L P 0 = 0 := by simp [cnt]
theorem cnt_all (L : List Un) (P : Un → Bool) : cnt L P L.length = (ids L P).length := by simp [cnt, ids]
theorem cnt_le (L : List Un) (P : Un → Bool) (i : Nat) : cnt L P i ≤ L.length := by
  unfold cnt
  have := List.length_filter_le P (L.take i)
  rw [List.length_take] at this
  omega
theorem cnt_yes {L : List Un} {P : Un → Bool} {i : Nat} (hi : i < L.length) (h : P (g L i) = true) : cnt L P (i + 1) = cnt L P i + 1 := by
  unfold cnt
  rw [List.take_add_one, g_at hi, List.filter_append]
  simp [h]
theorem cnt_no {L : List Un} {P : Un → Bool} {i : Nat} (hi : i < L.length) (h : P (g L i) = false) : cnt L P (i + 1) = cnt L P i := by
  unfold cnt
  rw [List.take_add_one, g_at hi, List.filter_append]
  simp [h]
theorem ids_split {L : List Un} {i : Nat} (hi : i < L.length) (P : Un → Bool) : ids L P = ids (L.take i) P ++ ids (g L i :: L.drop (i + 1)) P := by
  have h := split_at hi
  unfold ids
  rw [← List.map_append, ← List.filter_append, ← h]
theorem cnt_ids (L : List Un) (P : Un → Bool) (i : Nat) : cnt L P i = (ids (L.take i) P).length := by simp [cnt, ids]
theorem at_yes' {L : List Un} {P : Un → Bool} {i : Nat} (hi : i < L.length) (h : P (g L i) = true) : (ids L P)[cnt L P i]? = some (g L i).id := by
  rw [ids_split hi P, cnt_ids, List.getElem?_append_right (Nat.le_refl _)]
  simp [ids, h]
theorem at_no' {L : List Un} (hL : Cll.Good L) {P : Un → Bool} {i : Nat} (hi : i < L.length) (h : P (g L i) = false) {x : Int} (hx : (ids L P)[cnt L P i]? = some x) : x ≠ (g L i).id := by
  have hs := split_at hi
  have ha := hL.asc
  rw [hs] at ha
  rw [ids_split hi P, cnt_ids, List.getElem?_append_right (Nat.le_refl _)] at hx
  have hm := List.mem_of_getElem? hx
  unfold ids at hm
  rw [List.filter_cons_of_neg (by simp [h])] at hm
  obtain ⟨s, hs1, rfl⟩ := List.mem_map.1 hm
  have hs2 := (List.mem_filter.1 hs1).1
  have := (List.pairwise_cons.1 (List.pairwise_append.1 ha).2.1).1 s hs2
  omega
theorem near_more (px py x y r : Int) (h0 : 0 ≤ r) (h : nearB px py x y r = true) : nearB px py x y (r + 1) = true := by
  simp only [nearB, Bool.and_eq_true, decide_eq_true_eq] at h ⊢
  have h1 : r * r ≤ (r + 1) * (r + 1) := Int.mul_le_mul (by omega) (by omega) h0 (by omega)
  have := held_mono h1
  omega
theorem ids_more_len {L : List Un} {P Q : Un → Bool} (h : ∀ t, P t = true → Q t = true) : (ids L P).length ≤ (ids L Q).length := by
  unfold ids
  rw [List.length_map, List.length_map]
  induction L with
  | nil => simp
  | cons a r ih =>
    cases hp : P a
    · rw [List.filter_cons_of_neg (by simp [hp])]
      cases hq : Q a
      · rw [List.filter_cons_of_neg (by simp [hq])]; exact ih
      · rw [List.filter_cons_of_pos hq]; simp; omega
    · rw [List.filter_cons_of_pos hp, List.filter_cons_of_pos (h a hp)]; simp; omega
theorem pairs_at {W : World} {A : Option Addr} {L : List Open.S2} (h : Open.RS2 W W.heap.size A L) {i : Nat} (hi : i < L.length) : ∃ b off s, A = some ⟨b, off, none⟩ ∧ b < W.heap.size ∧ L[i]? = some s ∧ ∀ w, Below W.heap.size W w → w.cell? ⟨b, off + i * 2, none⟩ = some (.int .i64 s.a0) ∧ w.cell? ⟨b, off + i * 2 + 1, none⟩ = some (.int .i64 s.a1) := by
  rcases h with rfl | ⟨b, off, hA, hlt, hc⟩
  · simp at hi
  · obtain ⟨h1, h2⟩ := hc i L[i] (by simp [hi])
    refine ⟨b, off, L[i], hA, hlt, by simp [hi], fun w hb => ?_⟩
    have e := hb.block b hlt
    exact ⟨(World.cell?_of_block (w := W) e).trans h1, (World.cell?_of_block (w := W) e).trans h2⟩
/-- What holds while pairs are put, and afterwards. -/
structure FA (W w : World) (N xb : Nat) (L : List Un) (px py : Int) (K : List (Nat × Obj)) : Prop where
  x : XK (W.alloc (.cells #[.int .i64 px, .int .i64 py] 32)) w N xb L K
theorem FA.wb {W w : World} {N xb : Nat} {L : List Un} {px py : Int} {K : List (Nat × Obj)} (h : FA W w N xb L px py K) : Below W.heap.size W w :=
  ((Below.refl _ W).alloc (Nat.le_refl _) _).trans (h.x.bel.mono (by simp))
theorem FA.box {W w : World} {N xb : Nat} {L : List Un} {px py : Int} {K : List (Nat × Obj)} (h : FA W w N xb L px py K) : w.cell? ⟨W.heap.size, 0, none⟩ = some (.int .i64 px) ∧ w.cell? ⟨W.heap.size, 1, none⟩ = some (.int .i64 py) := by
  have a := (h.x.bel.block _ (by simp)).trans (heap_alloc_new W (.cells #[.int .i64 px, .int .i64 py] 32))
  exact ⟨(cell_of_row w _ 0 _ 32 (0, 0) a).trans rfl, (cell_of_row w _ 1 _ 32 (0, 0) a).trans rfl⟩
theorem FA.step {W w w' : World} {N xb : Nat} {L : List Un} {px py : Int} {K : List (Nat × Obj)} (h : FA W w N xb L px py K) (hb : Below w.heap.size w w') : FA W w' N xb L px py K := ⟨h.x.step hb⟩
theorem FA.good {W w : World} {N xb : Nat} {L : List Un} {px py : Int} {K : List (Nat × Obj)} (h : FA W w N xb L px py K) : Cll.Good L ∧ L.length ≤ N := ⟨h.x.xo.good, h.x.xo.len.1⟩
theorem fa_put {W w : World} {N xb : Nat} {L : List Un} {px py : Int} (h : FA W w N xb L px py []) (id x y : Int) (hf : Fits id) (hN : (N : Int) < 90000) (b : Bool) (hb : (onB x && onB y) = b) : Calls Try.prog 8 #[.pointer (some ⟨xb, 0, none⟩), .int .i64 id, pv x y] w fun e w' => e = .returned (.bool b) ∧ ∃ L', Hid (FA W w' (N + 2) xb L' px py []) := by
  refine (xk_put h.x id x y hf hN b hb _ rfl).mono ?_
  rintro e w' ⟨rfl, h1⟩
  exact ⟨rfl, _, Lib.hid ⟨h1.out⟩⟩
theorem fa_near {W w : World} {N xb : Nat} {L : List Un} {px py : Int} {K : List (Nat × Obj)} (h : FA W w N xb L px py K) (f1 : Fits px) (f2 : Fits py) (r : Int) (fr : Fits r) (l : List Int) (hl : ids L (nr px py r) = l) : Calls Try.prog 17 #[.pointer (some ⟨xb, 0, none⟩), pv px py, .int .i64 r] w fun e w' => ∃ A c, e = .returned (.slice A l.length c) ∧ Hid (Mei.Rd .i64 w' w'.heap.size A l) ∧ Hid (FA W w' N xb L px py K) ∧ Hid (Below w.heap.size w w') := by
  refine (xk_near h.x px py r f1 f2 fr l hl _ rfl).mono ?_
  rintro e w' ⟨A, c, rfl, hR, h1, hB⟩
  exact ⟨A, c, rfl, hR, Lib.hid ⟨h1.out⟩, hB⟩
theorem fa_ids {W w : World} {N xb : Nat} {L : List Un} {px py : Int} {K : List (Nat × Obj)} (h : FA W w N xb L px py K) (l : List Int) (hl : ids L (fun _ => true) = l) : Calls Try.prog 19 #[.pointer (some ⟨xb, 0, none⟩)] w fun e w' => ∃ A c, e = .returned (.slice A l.length c) ∧ Hid (Mei.Rd .i64 w' w'.heap.size A l) ∧ Hid (FA W w' N xb L px py K) ∧ Hid (Below w.heap.size w w') := by
  refine (xk_ids h.x l hl _ rfl).mono ?_
  rintro e w' ⟨A, c, rfl, hR, h1, hB⟩
  exact ⟨A, c, rfl, hR, Lib.hid ⟨h1.out⟩, hB⟩
theorem fa_at {W w : World} {N xb : Nat} {L : List Un} {px py : Int} {K : List (Nat × Obj)} (h : FA W w N xb L px py K) (id x y : Int) (hf : Fits id) (ht : ∃ t, lk L id = some t ∧ t.x = x ∧ t.y = y) : Calls Try.prog 12 #[.pointer (some ⟨xb, 0, none⟩), .int .i64 id] w fun e w' => e = .returned (.tuple #[pv x y, .bool true]) ∧ Hid (FA W w' N xb L px py K) ∧ Hid (Below w.heap.size w w') := by
  obtain ⟨t, h1, rfl, rfl⟩ := ht
  refine (xk_at h.x id hf t.x t.y true (by rw [h1]; exact ⟨rfl, rfl, rfl⟩)).mono ?_
  rintro e w' ⟨rfl, h2, hB⟩
  exact ⟨rfl, Lib.hid ⟨h2.out⟩, hB⟩
theorem new_pos (w : World) (x y : Int) : (w.alloc (.cells #[.int .i64 x, .int .i64 y] 32)).cell? ⟨w.heap.size, 0, none⟩ = some (.int .i64 x) ∧ (w.alloc (.cells #[.int .i64 x, .int .i64 y] 32)).cell? ⟨w.heap.size, 1, none⟩ = some (.int .i64 y) := by
  have a := heap_alloc_new w (.cells #[.int .i64 x, .int .i64 y] 32)
  exact ⟨(cell_of_row _ _ 0 _ 32 (0, 0) a).trans rfl, (cell_of_row _ _ 1 _ 32 (0, 0) a).trans rfl⟩
set_option maxHeartbeats 16000000 in
set_option maxRecDepth 20000 in
theorem walk (W : World) (A0 : Option Addr) (c0 : Nat) (l0 : List Open.S2) (hr0 : Open.RS2 W W.heap.size A0 l0) (hc0 : l0.length ≤ c0) (hl0 : l0.length ≤ 9223372036854775807) (hx0 : ∀ s ∈ l0, Fits s.a0 ∧ Fits s.a1) (px py : Int) (f1 : Fits px) (f2 : Fits py) (r : Int) (fr : Fits r) :
    Calls Try.prog 4 #[.slice A0 l0.length c0, pv px py, .int .i64 r] W fun e W' => e = .returned (.bool true) ∧ Below W.heap.size W W' := by
  have HR0 := Lib.hid hr0; have HX0 := Lib.hid hx0
  have F1 := Lib.hid f1; have F2 := Lib.hid f2; have FR := Lib.hid fr
  clear hr0 hc0 hl0 hx0 f1 f2 fr
  have HB0 := Lib.hid ((Below.refl W.heap.size W).alloc (Nat.le_refl _) (.cells #[.int .i64 px, .int .i64 py] 32))
  by_cases hg0 : (l0.length : Int) > 200
  · go_enter Try.func4, Try.ntmps4
    go_wp2_with (first
      | ((with_reducible refine (small_any _).mono ?_); rintro e w1 ⟨rfl, hb1⟩; have HB1 := Lib.hid hb1; clear hb1)
      | ((with_reducible refine (xo_new _ _ HB1.out).mono ?_); rintro e w2 ⟨xb, rfl, HX, HB2⟩))
    go_ret
    exact ⟨rfl, HB0.out.trans (HX.out.bel.mono (by simp))⟩
  · have hd0 : decide ((l0.length : Int) > 200) = false := by simpa using hg0
    have hL0 : (l0.length : Int) ≤ 3000 := by omega
    have HLb : Hid ((l0.length : Int) ≤ 200) := Lib.hid (by omega)
    clear hg0
    go_enter Try.func4, Try.ntmps4
    go_wp2_with (first
      | ((with_reducible refine (small_any _).mono ?_); rintro e w1 ⟨rfl, hb1⟩; have HB1 := Lib.hid hb1; clear hb1)
      | ((with_reducible refine (xo_new _ _ HB1.out).mono ?_); rintro e w2 ⟨xb, rfl, HX, HB2⟩; have HXS : Hid (FA W w2 0 xb [] px py []) := Lib.hid ⟨HX.out.xk⟩; clear HX HB2))
    clear hd0 HB1 HB0
    generalize w2 = w3 at HXS ⊢
    go_loopg [9] l0.length (fun m s9 wr => ∃ (i : Nat) (L : List Un), i ≤ l0.length ∧ m = l0.length - i ∧ s9 = .int .i64 (i : Int) ∧ Hid (FA W wr (2 * i) xb L px py []))
    case atStart => exact ⟨0, [], by omega, rfl, rfl, HXS⟩
    case round =>
      clear HXS
      obtain ⟨i, L, hi, rfl, rfl, HX⟩ := hrel
      by_cases hil : i < l0.length
      · have hil' : (i : Int) < l0.length := by omega
        have hip : (0 : Int) ≤ (i : Int) := by omega
        have hi1 : i + 1 ≤ l0.length := hil
        obtain ⟨b, off, s, hA, hbl, hls, hcell⟩ := pairs_at HR0.out hil
        have HC := Lib.hid hcell
        obtain ⟨e0, e1⟩ := hcell wr HX.out.wb
        have HIf : Hid (Fits (i : Int)) := Lib.hid (fit_of (by omega) (by have := HLb.out; omega))
        have HN : Hid (((2 * i : Nat) : Int) < 90000) := Lib.hid (by have := HLb.out; omega)
        have HO := 0
        subst hA
        clear hcell hls
        by_cases g1 : 0 ≤ s.a0
        · by_cases g2 : s.a0 < 256
          · by_cases g3 : 0 ≤ s.a1
            · by_cases g4 : s.a1 < 256
              · skip
                have HOB : (onB s.a0 && onB s.a1) = true := by simp [onB]; omega
                clear HO
                go_wp2
                have HXd := Lib.hid (HX.out.step ((Below.refl _ wr).drew))
                have hS0 : Below W.heap.size W wr.drew := HXd.out.wb
                refine wp_region_noPanic ?_
                refine wp_region_held_drew (S := fun w' => Below W.heap.size W w') (by kernel_rfl) hS0 (fun _ => ?_)
                refine wpAnyH_take (i := 0) (oi := ⟨some 68, Op.move (Operand.tmp 8), 24, _, _, none⟩) (v := ?vra0) rfl (by kernel_rfl) (by kernel_rfl) (by kernel_rfl) (fun _ _ _ h => h) (Or.inl ⟨by rfl, ?hra0⟩) hS0 ?rra0
                case hra0 => (intro wz hSw; go_simp <;> with_reducible rfl)
                (try simp only [Act.put, List.setIfInBounds_toArray, List.set_cons_zero, List.set_cons_succ])
                refine wpAnyH_take (i := 1) (oi := ⟨some 69, Op.move (Operand.tmp 9), 3, _, _, none⟩) (v := ?vra1) rfl (by kernel_rfl) (by kernel_rfl) (by kernel_rfl) (fun _ _ _ h => h) (Or.inl ⟨by rfl, ?hra1⟩) hS0 ?rra1
                case hra1 => (intro wz hSw; go_simp <;> with_reducible rfl)
                (try simp only [Act.put, List.setIfInBounds_toArray, List.set_cons_zero, List.set_cons_succ])
                refine wpAnyH_take (i := 2) (oi := ⟨some 70, Op.move (Operand.tmp 0), 44, _, _, none⟩) (v := ?vra2) rfl (by kernel_rfl) (by kernel_rfl) (by kernel_rfl) (fun _ _ _ h => h) (Or.inl ⟨by rfl, ?hra2⟩) hS0 ?rra2
                case hra2 => (intro wz hSw; go_simp <;> with_reducible rfl)
                (try simp only [Act.put, List.setIfInBounds_toArray, List.set_cons_zero, List.set_cons_succ])
                refine wpAnyH_take (i := 3) (oi := ⟨some 71, Op.move (Operand.tmp 9), 3, _, _, none⟩) (v := ?vra3) rfl (by kernel_rfl) (by kernel_rfl) (by kernel_rfl) (fun _ _ _ h => h) (Or.inl ⟨by rfl, ?hra3⟩) hS0 ?rra3
                case hra3 => (intro wz hSw; go_simp <;> with_reducible rfl)
                (try simp only [Act.put, List.setIfInBounds_toArray, List.set_cons_zero, List.set_cons_succ])
                refine wpAnyH_take (i := 4) (oi := ⟨some 72, Op.indexAddr 44 (Operand.tmp 70) (Operand.tmp 71), 0, _, _, none⟩) (v := ?vra4) rfl (by kernel_rfl) (by kernel_rfl) (by kernel_rfl) (fun _ _ _ h => h) (Or.inl ⟨by rfl, ?hra4⟩) hS0 ?rra4
                case hra4 => (intro wz hSw; go_simp <;> with_reducible rfl)
                (try simp only [Act.put, List.setIfInBounds_toArray, List.set_cons_zero, List.set_cons_succ])
                refine wpAnyH_take (i := 5) (oi := ⟨some 73, Op.indexAddr 45 (Operand.tmp 72) (Operand.const (Value.int IntKind.i64 0)), 0, _, _, none⟩) (v := ?vra5) rfl (by kernel_rfl) (by kernel_rfl) (by kernel_rfl) (fun _ _ _ h => h) (Or.inl ⟨by rfl, ?hra5⟩) hS0 ?rra5
                case hra5 => (intro wz hSw; go_simp <;> with_reducible rfl)
                (try simp only [Act.put, List.setIfInBounds_toArray, List.set_cons_zero, List.set_cons_succ])
                refine wpAnyH_take (i := 6) (oi := ⟨some 74, Op.load 3 (Operand.tmp 73), 3, _, _, none⟩) (v := ?vra6) rfl (by kernel_rfl) (by kernel_rfl) (by kernel_rfl) (fun _ _ _ h => h) (Or.inl ⟨by rfl, ?hra6⟩) hS0 ?rra6
                case hra6 => (intro wz hSw; obtain ⟨e0, e1⟩ := HC.out wz hSw; go_simp <;> with_reducible rfl)
                (try simp only [Act.put, List.setIfInBounds_toArray, List.set_cons_zero, List.set_cons_succ])
                refine wpAnyH_take (i := 7) (oi := ⟨some 75, Op.move (Operand.tmp 0), 44, _, _, none⟩) (v := ?vra7) rfl (by kernel_rfl) (by kernel_rfl) (by kernel_rfl) (fun _ _ _ h => h) (Or.inl ⟨by rfl, ?hra7⟩) hS0 ?rra7
                case hra7 => (intro wz hSw; go_simp <;> with_reducible rfl)
                (try simp only [Act.put, List.setIfInBounds_toArray, List.set_cons_zero, List.set_cons_succ])
                refine wpAnyH_take (i := 8) (oi := ⟨some 76, Op.move (Operand.tmp 9), 3, _, _, none⟩) (v := ?vra8) rfl (by kernel_rfl) (by kernel_rfl) (by kernel_rfl) (fun _ _ _ h => h) (Or.inl ⟨by rfl, ?hra8⟩) hS0 ?rra8
                case hra8 => (intro wz hSw; go_simp <;> with_reducible rfl)
                (try simp only [Act.put, List.setIfInBounds_toArray, List.set_cons_zero, List.set_cons_succ])
                refine wpAnyH_take (i := 9) (oi := ⟨some 77, Op.indexAddr 44 (Operand.tmp 75) (Operand.tmp 76), 0, _, _, none⟩) (v := ?vra9) rfl (by kernel_rfl) (by kernel_rfl) (by kernel_rfl) (fun _ _ _ h => h) (Or.inl ⟨by rfl, ?hra9⟩) hS0 ?rra9
                case hra9 => (intro wz hSw; go_simp <;> with_reducible rfl)
                (try simp only [Act.put, List.setIfInBounds_toArray, List.set_cons_zero, List.set_cons_succ])
                refine wpAnyH_take (i := 10) (oi := ⟨some 78, Op.indexAddr 45 (Operand.tmp 77) (Operand.const (Value.int IntKind.i64 1)), 0, _, _, none⟩) (v := ?vra10) rfl (by kernel_rfl) (by kernel_rfl) (by kernel_rfl) (fun _ _ _ h => h) (Or.inl ⟨by rfl, ?hra10⟩) hS0 ?rra10
                case hra10 => (intro wz hSw; go_simp <;> with_reducible rfl)
                (try simp only [Act.put, List.setIfInBounds_toArray, List.set_cons_zero, List.set_cons_succ])
                refine wpAnyH_take (i := 11) (oi := ⟨some 79, Op.load 3 (Operand.tmp 78), 3, _, _, none⟩) (v := ?vra11) rfl (by kernel_rfl) (by kernel_rfl) (by kernel_rfl) (fun _ _ _ h => h) (Or.inl ⟨by rfl, ?hra11⟩) hS0 ?rra11
                case hra11 => (intro wz hSw; obtain ⟨e0, e1⟩ := HC.out wz hSw; go_simp <;> with_reducible rfl)
                (try simp only [Act.put, List.setIfInBounds_toArray, List.set_cons_zero, List.set_cons_succ])
                refine wpAnyH_take (i := 12) (oi := ⟨some 80, Op.build 32 #[(0, Operand.tmp 74), (1, Operand.tmp 79)], 32, _, _, none⟩) (v := ?vra12) rfl (by kernel_rfl) (by kernel_rfl) (by kernel_rfl) (fun _ _ _ h => h) (Or.inl ⟨by rfl, ?hra12⟩) hS0 ?rra12
                case hra12 => (intro wz hSw; go_simp <;> with_reducible rfl)
                (try simp only [Act.put, List.setIfInBounds_toArray, List.set_cons_zero, List.set_cons_succ])
                refine wpAnyH_take (i := 14) (oi := ⟨some 82, Op.move (Operand.tmp 10), 4, _, _, none⟩) (v := ?vra14) rfl (by kernel_rfl) (by kernel_rfl) (by kernel_rfl) (fun _ _ _ h => h) (Or.inl ⟨by rfl, ?hra14⟩) hS0 ?rra14
                case hra14 => (intro wz hSw; go_simp <;> with_reducible rfl)
                (try simp only [Act.put, List.setIfInBounds_toArray, List.set_cons_zero, List.set_cons_succ])
                refine wpAnyH_ready (rs := [13]) (by kernel_rfl) (by simp) ?_
                refine AllReadyH.cons (o := ⟨some 81, Op.call { callee := Callee.value (Operand.func 8), args := #[Operand.tmp 68, Operand.tmp 69, Operand.tmp 80], argTypes := #[24, 3, 32] }, 4, _, _, none⟩) rfl (fun K hK => ?_) AllReadyH.nil
                go_simp
                (with_reducible refine (fa_put HXd.out (i : Int) s.a0 s.a1 HIf.out HN.out true HOB).mono ?_); rintro e v1 ⟨rfl, L2, HX2⟩; have hS1 : Below W.heap.size W v1 := HX2.out.wb
                refine hK.out _ _ hS1 (fun _ => ?_)
                clear hK K
                (try simp only [Act.put, List.setIfInBounds_toArray, List.set_cons_zero, List.set_cons_succ])
                refine wpAnyH_take (i := 15) (oi := ⟨some 83, Op.binOp BinOp.neq 4 (Operand.tmp 81) (Operand.tmp 82) 4, 4, _, _, none⟩) (v := ?vra15) rfl (by kernel_rfl) (by kernel_rfl) (by kernel_rfl) (fun _ _ _ h => h) (Or.inl ⟨by rfl, ?hra15⟩) hS1 ?rra15
                case hra15 => (intro wz hSw; go_simp <;> with_reducible rfl)
                (try simp only [Act.put, List.setIfInBounds_toArray, List.set_cons_zero, List.set_cons_succ])
                refine wpAnyH_done (by kernel_rfl) ?_ _
                refine NoPanic.normal ?_
                generalize hv9 : v1 = V2 at HX2 ⊢
                clear hv9
                go_wp2
                go_roundg (l0.length - (i + 1))
                · exact ⟨i + 1, L2, hi1, rfl, by go_num, Lib.hid (by rw [show 2 * (i + 1) = 2 * i + 2 by omega]; exact HX2.out)⟩
                · omega
              · have z1 : decide (s.a1 < 256) = false := by simp; omega
                have HOB : (onB s.a0 && onB s.a1) = false := by simp [onB]; omega
                clear HO
                go_wp2
                have HXd := Lib.hid (HX.out.step ((Below.refl _ wr).drew))
                have hS0 : Below W.heap.size W wr.drew := HXd.out.wb
                refine wp_region_noPanic ?_
                refine wp_region_held_drew (S := fun w' => Below W.heap.size W w') (by kernel_rfl) hS0 (fun _ => ?_)
                refine wpAnyH_take (i := 0) (oi := ⟨some 68, Op.move (Operand.tmp 8), 24, _, _, none⟩) (v := ?vrb0) rfl (by kernel_rfl) (by kernel_rfl) (by kernel_rfl) (fun _ _ _ h => h) (Or.inl ⟨by rfl, ?hrb0⟩) hS0 ?rrb0
                case hrb0 => (intro wz hSw; go_simp <;> with_reducible rfl)
                (try simp only [Act.put, List.setIfInBounds_toArray, List.set_cons_zero, List.set_cons_succ])
                refine wpAnyH_take (i := 1) (oi := ⟨some 69, Op.move (Operand.tmp 9), 3, _, _, none⟩) (v := ?vrb1) rfl (by kernel_rfl) (by kernel_rfl) (by kernel_rfl) (fun _ _ _ h => h) (Or.inl ⟨by rfl, ?hrb1⟩) hS0 ?rrb1
                case hrb1 => (intro wz hSw; go_simp <;> with_reducible rfl)
                (try simp only [Act.put, List.setIfInBounds_toArray, List.set_cons_zero, List.set_cons_succ])
                refine wpAnyH_take (i := 2) (oi := ⟨some 70, Op.move (Operand.tmp 0), 44, _, _, none⟩) (v := ?vrb2) rfl (by kernel_rfl) (by kernel_rfl) (by kernel_rfl) (fun _ _ _ h => h) (Or.inl ⟨by rfl, ?hrb2⟩) hS0 ?rrb2
                case hrb2 => (intro wz hSw; go_simp <;> with_reducible rfl)
                (try simp only [Act.put, List.setIfInBounds_toArray, List.set_cons_zero, List.set_cons_succ])
                refine wpAnyH_take (i := 3) (oi := ⟨some 71, Op.move (Operand.tmp 9), 3, _, _, none⟩) (v := ?vrb3) rfl (by kernel_rfl) (by kernel_rfl) (by kernel_rfl) (fun _ _ _ h => h) (Or.inl ⟨by rfl, ?hrb3⟩) hS0 ?rrb3
                case hrb3 => (intro wz hSw; go_simp <;> with_reducible rfl)
                (try simp only [Act.put, List.setIfInBounds_toArray, List.set_cons_zero, List.set_cons_succ])
                refine wpAnyH_take (i := 4) (oi := ⟨some 72, Op.indexAddr 44 (Operand.tmp 70) (Operand.tmp 71), 0, _, _, none⟩) (v := ?vrb4) rfl (by kernel_rfl) (by kernel_rfl) (by kernel_rfl) (fun _ _ _ h => h) (Or.inl ⟨by rfl, ?hrb4⟩) hS0 ?rrb4
                case hrb4 => (intro wz hSw; go_simp <;> with_reducible rfl)
                (try simp only [Act.put, List.setIfInBounds_toArray, List.set_cons_zero, List.set_cons_succ])
                refine wpAnyH_take (i := 5) (oi := ⟨some 73, Op.indexAddr 45 (Operand.tmp 72) (Operand.const (Value.int IntKind.i64 0)), 0, _, _, none⟩) (v := ?vrb5) rfl (by kernel_rfl) (by kernel_rfl) (by kernel_rfl) (fun _ _ _ h => h) (Or.inl ⟨by rfl, ?hrb5⟩) hS0 ?rrb5
                case hrb5 => (intro wz hSw; go_simp <;> with_reducible rfl)
                (try simp only [Act.put, List.setIfInBounds_toArray, List.set_cons_zero, List.set_cons_succ])
                refine wpAnyH_take (i := 6) (oi := ⟨some 74, Op.load 3 (Operand.tmp 73), 3, _, _, none⟩) (v := ?vrb6) rfl (by kernel_rfl) (by kernel_rfl) (by kernel_rfl) (fun _ _ _ h => h) (Or.inl ⟨by rfl, ?hrb6⟩) hS0 ?rrb6
                case hrb6 => (intro wz hSw; obtain ⟨e0, e1⟩ := HC.out wz hSw; go_simp <;> with_reducible rfl)
                (try simp only [Act.put, List.setIfInBounds_toArray, List.set_cons_zero, List.set_cons_succ])
                refine wpAnyH_take (i := 7) (oi := ⟨some 75, Op.move (Operand.tmp 0), 44, _, _, none⟩) (v := ?vrb7) rfl (by kernel_rfl) (by kernel_rfl) (by kernel_rfl) (fun _ _ _ h => h) (Or.inl ⟨by rfl, ?hrb7⟩) hS0 ?rrb7
                case hrb7 => (intro wz hSw; go_simp <;> with_reducible rfl)
                (try simp only [Act.put, List.setIfInBounds_toArray, List.set_cons_zero, List.set_cons_succ])
                refine wpAnyH_take (i := 8) (oi := ⟨some 76, Op.move (Operand.tmp 9), 3, _, _, none⟩) (v := ?vrb8) rfl (by kernel_rfl) (by kernel_rfl) (by kernel_rfl) (fun _ _ _ h => h) (Or.inl ⟨by rfl, ?hrb8⟩) hS0 ?rrb8
                case hrb8 => (intro wz hSw; go_simp <;> with_reducible rfl)
                (try simp only [Act.put, List.setIfInBounds_toArray, List.set_cons_zero, List.set_cons_succ])
                refine wpAnyH_take (i := 9) (oi := ⟨some 77, Op.indexAddr 44 (Operand.tmp 75) (Operand.tmp 76), 0, _, _, none⟩) (v := ?vrb9) rfl (by kernel_rfl) (by kernel_rfl) (by kernel_rfl) (fun _ _ _ h => h) (Or.inl ⟨by rfl, ?hrb9⟩) hS0 ?rrb9
                case hrb9 => (intro wz hSw; go_simp <;> with_reducible rfl)
                (try simp only [Act.put, List.setIfInBounds_toArray, List.set_cons_zero, List.set_cons_succ])
                refine wpAnyH_take (i := 10) (oi := ⟨some 78, Op.indexAddr 45 (Operand.tmp 77) (Operand.const (Value.int IntKind.i64 1)), 0, _, _, none⟩) (v := ?vrb10) rfl (by kernel_rfl) (by kernel_rfl) (by kernel_rfl) (fun _ _ _ h => h) (Or.inl ⟨by rfl, ?hrb10⟩) hS0 ?rrb10
                case hrb10 => (intro wz hSw; go_simp <;> with_reducible rfl)
                (try simp only [Act.put, List.setIfInBounds_toArray, List.set_cons_zero, List.set_cons_succ])
                refine wpAnyH_take (i := 11) (oi := ⟨some 79, Op.load 3 (Operand.tmp 78), 3, _, _, none⟩) (v := ?vrb11) rfl (by kernel_rfl) (by kernel_rfl) (by kernel_rfl) (fun _ _ _ h => h) (Or.inl ⟨by rfl, ?hrb11⟩) hS0 ?rrb11
                case hrb11 => (intro wz hSw; obtain ⟨e0, e1⟩ := HC.out wz hSw; go_simp <;> with_reducible rfl)
                (try simp only [Act.put, List.setIfInBounds_toArray, List.set_cons_zero, List.set_cons_succ])
                refine wpAnyH_take (i := 12) (oi := ⟨some 80, Op.build 32 #[(0, Operand.tmp 74), (1, Operand.tmp 79)], 32, _, _, none⟩) (v := ?vrb12) rfl (by kernel_rfl) (by kernel_rfl) (by kernel_rfl) (fun _ _ _ h => h) (Or.inl ⟨by rfl, ?hrb12⟩) hS0 ?rrb12
                case hrb12 => (intro wz hSw; go_simp <;> with_reducible rfl)
                (try simp only [Act.put, List.setIfInBounds_toArray, List.set_cons_zero, List.set_cons_succ])
                refine wpAnyH_take (i := 14) (oi := ⟨some 82, Op.move (Operand.tmp 10), 4, _, _, none⟩) (v := ?vrb14) rfl (by kernel_rfl) (by kernel_rfl) (by kernel_rfl) (fun _ _ _ h => h) (Or.inl ⟨by rfl, ?hrb14⟩) hS0 ?rrb14
                case hrb14 => (intro wz hSw; go_simp <;> with_reducible rfl)
                (try simp only [Act.put, List.setIfInBounds_toArray, List.set_cons_zero, List.set_cons_succ])
                refine wpAnyH_ready (rs := [13]) (by kernel_rfl) (by simp) ?_
                refine AllReadyH.cons (o := ⟨some 81, Op.call { callee := Callee.value (Operand.func 8), args := #[Operand.tmp 68, Operand.tmp 69, Operand.tmp 80], argTypes := #[24, 3, 32] }, 4, _, _, none⟩) rfl (fun K hK => ?_) AllReadyH.nil
                go_simp
                (with_reducible refine (fa_put HXd.out (i : Int) s.a0 s.a1 HIf.out HN.out false HOB).mono ?_); rintro e v1 ⟨rfl, L2, HX2⟩; have hS1 : Below W.heap.size W v1 := HX2.out.wb
                refine hK.out _ _ hS1 (fun _ => ?_)
                clear hK K
                (try simp only [Act.put, List.setIfInBounds_toArray, List.set_cons_zero, List.set_cons_succ])
                refine wpAnyH_take (i := 15) (oi := ⟨some 83, Op.binOp BinOp.neq 4 (Operand.tmp 81) (Operand.tmp 82) 4, 4, _, _, none⟩) (v := ?vrb15) rfl (by kernel_rfl) (by kernel_rfl) (by kernel_rfl) (fun _ _ _ h => h) (Or.inl ⟨by rfl, ?hrb15⟩) hS1 ?rrb15
                case hrb15 => (intro wz hSw; go_simp <;> with_reducible rfl)
                (try simp only [Act.put, List.setIfInBounds_toArray, List.set_cons_zero, List.set_cons_succ])
                refine wpAnyH_done (by kernel_rfl) ?_ _
                refine NoPanic.normal ?_
                generalize hv9 : v1 = V2 at HX2 ⊢
                clear hv9
                go_wp2
                go_roundg (l0.length - (i + 1))
                · exact ⟨i + 1, L2, hi1, rfl, by go_num, Lib.hid (by rw [show 2 * (i + 1) = 2 * i + 2 by omega]; exact HX2.out)⟩
                · omega
            · have z1 : decide (0 ≤ s.a1) = false := by simp; omega
              have HOB : (onB s.a0 && onB s.a1) = false := by simp [onB]; omega
              clear HO
              go_wp2
              have HXd := Lib.hid (HX.out.step ((Below.refl _ wr).drew))
              have hS0 : Below W.heap.size W wr.drew := HXd.out.wb
              refine wp_region_noPanic ?_
              refine wp_region_held_drew (S := fun w' => Below W.heap.size W w') (by kernel_rfl) hS0 (fun _ => ?_)
              refine wpAnyH_take (i := 0) (oi := ⟨some 68, Op.move (Operand.tmp 8), 24, _, _, none⟩) (v := ?vrc0) rfl (by kernel_rfl) (by kernel_rfl) (by kernel_rfl) (fun _ _ _ h => h) (Or.inl ⟨by rfl, ?hrc0⟩) hS0 ?rrc0
              case hrc0 => (intro wz hSw; go_simp <;> with_reducible rfl)
              (try simp only [Act.put, List.setIfInBounds_toArray, List.set_cons_zero, List.set_cons_succ])
              refine wpAnyH_take (i := 1) (oi := ⟨some 69, Op.move (Operand.tmp 9), 3, _, _, none⟩) (v := ?vrc1) rfl (by kernel_rfl) (by kernel_rfl) (by kernel_rfl) (fun _ _ _ h => h) (Or.inl ⟨by rfl, ?hrc1⟩) hS0 ?rrc1
              case hrc1 => (intro wz hSw; go_simp <;> with_reducible rfl)
              (try simp only [Act.put, List.setIfInBounds_toArray, List.set_cons_zero, List.set_cons_succ])
              refine wpAnyH_take (i := 2) (oi := ⟨some 70, Op.move (Operand.tmp 0), 44, _, _, none⟩) (v := ?vrc2) rfl (by kernel_rfl) (by kernel_rfl) (by kernel_rfl) (fun _ _ _ h => h) (Or.inl ⟨by rfl, ?hrc2⟩) hS0 ?rrc2
              case hrc2 => (intro wz hSw; go_simp <;> with_reducible rfl)
              (try simp only [Act.put, List.setIfInBounds_toArray, List.set_cons_zero, List.set_cons_succ])
              refine wpAnyH_take (i := 3) (oi := ⟨some 71, Op.move (Operand.tmp 9), 3, _, _, none⟩) (v := ?vrc3) rfl (by kernel_rfl) (by kernel_rfl) (by kernel_rfl) (fun _ _ _ h => h) (Or.inl ⟨by rfl, ?hrc3⟩) hS0 ?rrc3
              case hrc3 => (intro wz hSw; go_simp <;> with_reducible rfl)
              (try simp only [Act.put, List.setIfInBounds_toArray, List.set_cons_zero, List.set_cons_succ])
              refine wpAnyH_take (i := 4) (oi := ⟨some 72, Op.indexAddr 44 (Operand.tmp 70) (Operand.tmp 71), 0, _, _, none⟩) (v := ?vrc4) rfl (by kernel_rfl) (by kernel_rfl) (by kernel_rfl) (fun _ _ _ h => h) (Or.inl ⟨by rfl, ?hrc4⟩) hS0 ?rrc4
              case hrc4 => (intro wz hSw; go_simp <;> with_reducible rfl)
              (try simp only [Act.put, List.setIfInBounds_toArray, List.set_cons_zero, List.set_cons_succ])
              refine wpAnyH_take (i := 5) (oi := ⟨some 73, Op.indexAddr 45 (Operand.tmp 72) (Operand.const (Value.int IntKind.i64 0)), 0, _, _, none⟩) (v := ?vrc5) rfl (by kernel_rfl) (by kernel_rfl) (by kernel_rfl) (fun _ _ _ h => h) (Or.inl ⟨by rfl, ?hrc5⟩) hS0 ?rrc5
              case hrc5 => (intro wz hSw; go_simp <;> with_reducible rfl)
              (try simp only [Act.put, List.setIfInBounds_toArray, List.set_cons_zero, List.set_cons_succ])
              refine wpAnyH_take (i := 6) (oi := ⟨some 74, Op.load 3 (Operand.tmp 73), 3, _, _, none⟩) (v := ?vrc6) rfl (by kernel_rfl) (by kernel_rfl) (by kernel_rfl) (fun _ _ _ h => h) (Or.inl ⟨by rfl, ?hrc6⟩) hS0 ?rrc6
              case hrc6 => (intro wz hSw; obtain ⟨e0, e1⟩ := HC.out wz hSw; go_simp <;> with_reducible rfl)
              (try simp only [Act.put, List.setIfInBounds_toArray, List.set_cons_zero, List.set_cons_succ])
              refine wpAnyH_take (i := 7) (oi := ⟨some 75, Op.move (Operand.tmp 0), 44, _, _, none⟩) (v := ?vrc7) rfl (by kernel_rfl) (by kernel_rfl) (by kernel_rfl) (fun _ _ _ h => h) (Or.inl ⟨by rfl, ?hrc7⟩) hS0 ?rrc7
              case hrc7 => (intro wz hSw; go_simp <;> with_reducible rfl)
              (try simp only [Act.put, List.setIfInBounds_toArray, List.set_cons_zero, List.set_cons_succ])
              refine wpAnyH_take (i := 8) (oi := ⟨some 76, Op.move (Operand.tmp 9), 3, _, _, none⟩) (v := ?vrc8) rfl (by kernel_rfl) (by kernel_rfl) (by kernel_rfl) (fun _ _ _ h => h) (Or.inl ⟨by rfl, ?hrc8⟩) hS0 ?rrc8
              case hrc8 => (intro wz hSw; go_simp <;> with_reducible rfl)
              (try simp only [Act.put, List.setIfInBounds_toArray, List.set_cons_zero, List.set_cons_succ])
              refine wpAnyH_take (i := 9) (oi := ⟨some 77, Op.indexAddr 44 (Operand.tmp 75) (Operand.tmp 76), 0, _, _, none⟩) (v := ?vrc9) rfl (by kernel_rfl) (by kernel_rfl) (by kernel_rfl) (fun _ _ _ h => h) (Or.inl ⟨by rfl, ?hrc9⟩) hS0 ?rrc9
              case hrc9 => (intro wz hSw; go_simp <;> with_reducible rfl)
              (try simp only [Act.put, List.setIfInBounds_toArray, List.set_cons_zero, List.set_cons_succ])
              refine wpAnyH_take (i := 10) (oi := ⟨some 78, Op.indexAddr 45 (Operand.tmp 77) (Operand.const (Value.int IntKind.i64 1)), 0, _, _, none⟩) (v := ?vrc10) rfl (by kernel_rfl) (by kernel_rfl) (by kernel_rfl) (fun _ _ _ h => h) (Or.inl ⟨by rfl, ?hrc10⟩) hS0 ?rrc10
              case hrc10 => (intro wz hSw; go_simp <;> with_reducible rfl)
              (try simp only [Act.put, List.setIfInBounds_toArray, List.set_cons_zero, List.set_cons_succ])
              refine wpAnyH_take (i := 11) (oi := ⟨some 79, Op.load 3 (Operand.tmp 78), 3, _, _, none⟩) (v := ?vrc11) rfl (by kernel_rfl) (by kernel_rfl) (by kernel_rfl) (fun _ _ _ h => h) (Or.inl ⟨by rfl, ?hrc11⟩) hS0 ?rrc11
              case hrc11 => (intro wz hSw; obtain ⟨e0, e1⟩ := HC.out wz hSw; go_simp <;> with_reducible rfl)
              (try simp only [Act.put, List.setIfInBounds_toArray, List.set_cons_zero, List.set_cons_succ])
              refine wpAnyH_take (i := 12) (oi := ⟨some 80, Op.build 32 #[(0, Operand.tmp 74), (1, Operand.tmp 79)], 32, _, _, none⟩) (v := ?vrc12) rfl (by kernel_rfl) (by kernel_rfl) (by kernel_rfl) (fun _ _ _ h => h) (Or.inl ⟨by rfl, ?hrc12⟩) hS0 ?rrc12
              case hrc12 => (intro wz hSw; go_simp <;> with_reducible rfl)
              (try simp only [Act.put, List.setIfInBounds_toArray, List.set_cons_zero, List.set_cons_succ])
              refine wpAnyH_take (i := 14) (oi := ⟨some 82, Op.move (Operand.tmp 10), 4, _, _, none⟩) (v := ?vrc14) rfl (by kernel_rfl) (by kernel_rfl) (by kernel_rfl) (fun _ _ _ h => h) (Or.inl ⟨by rfl, ?hrc14⟩) hS0 ?rrc14
              case hrc14 => (intro wz hSw; go_simp <;> with_reducible rfl)
              (try simp only [Act.put, List.setIfInBounds_toArray, List.set_cons_zero, List.set_cons_succ])
              refine wpAnyH_ready (rs := [13]) (by kernel_rfl) (by simp) ?_
              refine AllReadyH.cons (o := ⟨some 81, Op.call { callee := Callee.value (Operand.func 8), args := #[Operand.tmp 68, Operand.tmp 69, Operand.tmp 80], argTypes := #[24, 3, 32] }, 4, _, _, none⟩) rfl (fun K hK => ?_) AllReadyH.nil
              go_simp
              (with_reducible refine (fa_put HXd.out (i : Int) s.a0 s.a1 HIf.out HN.out false HOB).mono ?_); rintro e v1 ⟨rfl, L2, HX2⟩; have hS1 : Below W.heap.size W v1 := HX2.out.wb
              refine hK.out _ _ hS1 (fun _ => ?_)
              clear hK K
              (try simp only [Act.put, List.setIfInBounds_toArray, List.set_cons_zero, List.set_cons_succ])
              refine wpAnyH_take (i := 15) (oi := ⟨some 83, Op.binOp BinOp.neq 4 (Operand.tmp 81) (Operand.tmp 82) 4, 4, _, _, none⟩) (v := ?vrc15) rfl (by kernel_rfl) (by kernel_rfl) (by kernel_rfl) (fun _ _ _ h => h) (Or.inl ⟨by rfl, ?hrc15⟩) hS1 ?rrc15
              case hrc15 => (intro wz hSw; go_simp <;> with_reducible rfl)
              (try simp only [Act.put, List.setIfInBounds_toArray, List.set_cons_zero, List.set_cons_succ])
              refine wpAnyH_done (by kernel_rfl) ?_ _
              refine NoPanic.normal ?_
              generalize hv9 : v1 = V2 at HX2 ⊢
              clear hv9
              go_wp2
              go_roundg (l0.length - (i + 1))
              · exact ⟨i + 1, L2, hi1, rfl, by go_num, Lib.hid (by rw [show 2 * (i + 1) = 2 * i + 2 by omega]; exact HX2.out)⟩
              · omega
          · have z1 : decide (s.a0 < 256) = false := by simp; omega
            have HOB : (onB s.a0 && onB s.a1) = false := by simp [onB]; omega
            clear HO
            go_wp2
            have HXd := Lib.hid (HX.out.step ((Below.refl _ wr).drew))
            have hS0 : Below W.heap.size W wr.drew := HXd.out.wb
            refine wp_region_noPanic ?_
            refine wp_region_held_drew (S := fun w' => Below W.heap.size W w') (by kernel_rfl) hS0 (fun _ => ?_)
            refine wpAnyH_take (i := 0) (oi := ⟨some 68, Op.move (Operand.tmp 8), 24, _, _, none⟩) (v := ?vrd0) rfl (by kernel_rfl) (by kernel_rfl) (by kernel_rfl) (fun _ _ _ h => h) (Or.inl ⟨by rfl, ?hrd0⟩) hS0 ?rrd0
            case hrd0 => (intro wz hSw; go_simp <;> with_reducible rfl)
            (try simp only [Act.put, List.setIfInBounds_toArray, List.set_cons_zero, List.set_cons_succ])
            refine wpAnyH_take (i := 1) (oi := ⟨some 69, Op.move (Operand.tmp 9), 3, _, _, none⟩) (v := ?vrd1) rfl (by kernel_rfl) (by kernel_rfl) (by kernel_rfl) (fun _ _ _ h => h) (Or.inl ⟨by rfl, ?hrd1⟩) hS0 ?rrd1
            case hrd1 => (intro wz hSw; go_simp <;> with_reducible rfl)
            (try simp only [Act.put, List.setIfInBounds_toArray, List.set_cons_zero, List.set_cons_succ])
            refine wpAnyH_take (i := 2) (oi := ⟨some 70, Op.move (Operand.tmp 0), 44, _, _, none⟩) (v := ?vrd2) rfl (by kernel_rfl) (by kernel_rfl) (by kernel_rfl) (fun _ _ _ h => h) (Or.inl ⟨by rfl, ?hrd2⟩) hS0 ?rrd2
            case hrd2 => (intro wz hSw; go_simp <;> with_reducible rfl)
            (try simp only [Act.put, List.setIfInBounds_toArray, List.set_cons_zero, List.set_cons_succ])
            refine wpAnyH_take (i := 3) (oi := ⟨some 71, Op.move (Operand.tmp 9), 3, _, _, none⟩) (v := ?vrd3) rfl (by kernel_rfl) (by kernel_rfl) (by kernel_rfl) (fun _ _ _ h => h) (Or.inl ⟨by rfl, ?hrd3⟩) hS0 ?rrd3
            case hrd3 => (intro wz hSw; go_simp <;> with_reducible rfl)
            (try simp only [Act.put, List.setIfInBounds_toArray, List.set_cons_zero, List.set_cons_succ])
            refine wpAnyH_take (i := 4) (oi := ⟨some 72, Op.indexAddr 44 (Operand.tmp 70) (Operand.tmp 71), 0, _, _, none⟩) (v := ?vrd4) rfl (by kernel_rfl) (by kernel_rfl) (by kernel_rfl) (fun _ _ _ h => h) (Or.inl ⟨by rfl, ?hrd4⟩) hS0 ?rrd4
            case hrd4 => (intro wz hSw; go_simp <;> with_reducible rfl)
            (try simp only [Act.put, List.setIfInBounds_toArray, List.set_cons_zero, List.set_cons_succ])
            refine wpAnyH_take (i := 5) (oi := ⟨some 73, Op.indexAddr 45 (Operand.tmp 72) (Operand.const (Value.int IntKind.i64 0)), 0, _, _, none⟩) (v := ?vrd5) rfl (by kernel_rfl) (by kernel_rfl) (by kernel_rfl) (fun _ _ _ h => h) (Or.inl ⟨by rfl, ?hrd5⟩) hS0 ?rrd5
            case hrd5 => (intro wz hSw; go_simp <;> with_reducible rfl)
            (try simp only [Act.put, List.setIfInBounds_toArray, List.set_cons_zero, List.set_cons_succ])
            refine wpAnyH_take (i := 6) (oi := ⟨some 74, Op.load 3 (Operand.tmp 73), 3, _, _, none⟩) (v := ?vrd6) rfl (by kernel_rfl) (by kernel_rfl) (by kernel_rfl) (fun _ _ _ h => h) (Or.inl ⟨by rfl, ?hrd6⟩) hS0 ?rrd6
            case hrd6 => (intro wz hSw; obtain ⟨e0, e1⟩ := HC.out wz hSw; go_simp <;> with_reducible rfl)
            (try simp only [Act.put, List.setIfInBounds_toArray, List.set_cons_zero, List.set_cons_succ])
            refine wpAnyH_take (i := 7) (oi := ⟨some 75, Op.move (Operand.tmp 0), 44, _, _, none⟩) (v := ?vrd7) rfl (by kernel_rfl) (by kernel_rfl) (by kernel_rfl) (fun _ _ _ h => h) (Or.inl ⟨by rfl, ?hrd7⟩) hS0 ?rrd7
            case hrd7 => (intro wz hSw; go_simp <;> with_reducible rfl)
            (try simp only [Act.put, List.setIfInBounds_toArray, List.set_cons_zero, List.set_cons_succ])
            refine wpAnyH_take (i := 8) (oi := ⟨some 76, Op.move (Operand.tmp 9), 3, _, _, none⟩) (v := ?vrd8) rfl (by kernel_rfl) (by kernel_rfl) (by kernel_rfl) (fun _ _ _ h => h) (Or.inl ⟨by rfl, ?hrd8⟩) hS0 ?rrd8
            case hrd8 => (intro wz hSw; go_simp <;> with_reducible rfl)
            (try simp only [Act.put, List.setIfInBounds_toArray, List.set_cons_zero, List.set_cons_succ])
            refine wpAnyH_take (i := 9) (oi := ⟨some 77, Op.indexAddr 44 (Operand.tmp 75) (Operand.tmp 76), 0, _, _, none⟩) (v := ?vrd9) rfl (by kernel_rfl) (by kernel_rfl) (by kernel_rfl) (fun _ _ _ h => h) (Or.inl ⟨by rfl, ?hrd9⟩) hS0 ?rrd9
            case hrd9 => (intro wz hSw; go_simp <;> with_reducible rfl)
            (try simp only [Act.put, List.setIfInBounds_toArray, List.set_cons_zero, List.set_cons_succ])
            refine wpAnyH_take (i := 10) (oi := ⟨some 78, Op.indexAddr 45 (Operand.tmp 77) (Operand.const (Value.int IntKind.i64 1)), 0, _, _, none⟩) (v := ?vrd10) rfl (by kernel_rfl) (by kernel_rfl) (by kernel_rfl) (fun _ _ _ h => h) (Or.inl ⟨by rfl, ?hrd10⟩) hS0 ?rrd10
            case hrd10 => (intro wz hSw; go_simp <;> with_reducible rfl)
            (try simp only [Act.put, List.setIfInBounds_toArray, List.set_cons_zero, List.set_cons_succ])
            refine wpAnyH_take (i := 11) (oi := ⟨some 79, Op.load 3 (Operand.tmp 78), 3, _, _, none⟩) (v := ?vrd11) rfl (by kernel_rfl) (by kernel_rfl) (by kernel_rfl) (fun _ _ _ h => h) (Or.inl ⟨by rfl, ?hrd11⟩) hS0 ?rrd11
            case hrd11 => (intro wz hSw; obtain ⟨e0, e1⟩ := HC.out wz hSw; go_simp <;> with_reducible rfl)
            (try simp only [Act.put, List.setIfInBounds_toArray, List.set_cons_zero, List.set_cons_succ])
            refine wpAnyH_take (i := 12) (oi := ⟨some 80, Op.build 32 #[(0, Operand.tmp 74), (1, Operand.tmp 79)], 32, _, _, none⟩) (v := ?vrd12) rfl (by kernel_rfl) (by kernel_rfl) (by kernel_rfl) (fun _ _ _ h => h) (Or.inl ⟨by rfl, ?hrd12⟩) hS0 ?rrd12
            case hrd12 => (intro wz hSw; go_simp <;> with_reducible rfl)
            (try simp only [Act.put, List.setIfInBounds_toArray, List.set_cons_zero, List.set_cons_succ])
            refine wpAnyH_take (i := 14) (oi := ⟨some 82, Op.move (Operand.tmp 10), 4, _, _, none⟩) (v := ?vrd14) rfl (by kernel_rfl) (by kernel_rfl) (by kernel_rfl) (fun _ _ _ h => h) (Or.inl ⟨by rfl, ?hrd14⟩) hS0 ?rrd14
            case hrd14 => (intro wz hSw; go_simp <;> with_reducible rfl)
            (try simp only [Act.put, List.setIfInBounds_toArray, List.set_cons_zero, List.set_cons_succ])
            refine wpAnyH_ready (rs := [13]) (by kernel_rfl) (by simp) ?_
            refine AllReadyH.cons (o := ⟨some 81, Op.call { callee := Callee.value (Operand.func 8), args := #[Operand.tmp 68, Operand.tmp 69, Operand.tmp 80], argTypes := #[24, 3, 32] }, 4, _, _, none⟩) rfl (fun K hK => ?_) AllReadyH.nil
            go_simp
            (with_reducible refine (fa_put HXd.out (i : Int) s.a0 s.a1 HIf.out HN.out false HOB).mono ?_); rintro e v1 ⟨rfl, L2, HX2⟩; have hS1 : Below W.heap.size W v1 := HX2.out.wb
            refine hK.out _ _ hS1 (fun _ => ?_)
            clear hK K
            (try simp only [Act.put, List.setIfInBounds_toArray, List.set_cons_zero, List.set_cons_succ])
            refine wpAnyH_take (i := 15) (oi := ⟨some 83, Op.binOp BinOp.neq 4 (Operand.tmp 81) (Operand.tmp 82) 4, 4, _, _, none⟩) (v := ?vrd15) rfl (by kernel_rfl) (by kernel_rfl) (by kernel_rfl) (fun _ _ _ h => h) (Or.inl ⟨by rfl, ?hrd15⟩) hS1 ?rrd15
            case hrd15 => (intro wz hSw; go_simp <;> with_reducible rfl)
            (try simp only [Act.put, List.setIfInBounds_toArray, List.set_cons_zero, List.set_cons_succ])
            refine wpAnyH_done (by kernel_rfl) ?_ _
            refine NoPanic.normal ?_
            generalize hv9 : v1 = V2 at HX2 ⊢
            clear hv9
            go_wp2
            go_roundg (l0.length - (i + 1))
            · exact ⟨i + 1, L2, hi1, rfl, by go_num, Lib.hid (by rw [show 2 * (i + 1) = 2 * i + 2 by omega]; exact HX2.out)⟩
            · omega
        · have z1 : decide (0 ≤ s.a0) = false := by simp; omega
          have HOB : (onB s.a0 && onB s.a1) = false := by simp [onB]; omega
          clear HO
          go_wp2
          have HXd := Lib.hid (HX.out.step ((Below.refl _ wr).drew))
          have hS0 : Below W.heap.size W wr.drew := HXd.out.wb
          refine wp_region_noPanic ?_
          refine wp_region_held_drew (S := fun w' => Below W.heap.size W w') (by kernel_rfl) hS0 (fun _ => ?_)
          refine wpAnyH_take (i := 0) (oi := ⟨some 68, Op.move (Operand.tmp 8), 24, _, _, none⟩) (v := ?vre0) rfl (by kernel_rfl) (by kernel_rfl) (by kernel_rfl) (fun _ _ _ h => h) (Or.inl ⟨by rfl, ?hre0⟩) hS0 ?rre0
          case hre0 => (intro wz hSw; go_simp <;> with_reducible rfl)
          (try simp only [Act.put, List.setIfInBounds_toArray, List.set_cons_zero, List.set_cons_succ])
          refine wpAnyH_take (i := 1) (oi := ⟨some 69, Op.move (Operand.tmp 9), 3, _, _, none⟩) (v := ?vre1) rfl (by kernel_rfl) (by kernel_rfl) (by kernel_rfl) (fun _ _ _ h => h) (Or.inl ⟨by rfl, ?hre1⟩) hS0 ?rre1
          case hre1 => (intro wz hSw; go_simp <;> with_reducible rfl)
          (try simp only [Act.put, List.setIfInBounds_toArray, List.set_cons_zero, List.set_cons_succ])
          refine wpAnyH_take (i := 2) (oi := ⟨some 70, Op.move (Operand.tmp 0), 44, _, _, none⟩) (v := ?vre2) rfl (by kernel_rfl) (by kernel_rfl) (by kernel_rfl) (fun _ _ _ h => h) (Or.inl ⟨by rfl, ?hre2⟩) hS0 ?rre2
          case hre2 => (intro wz hSw; go_simp <;> with_reducible rfl)
          (try simp only [Act.put, List.setIfInBounds_toArray, List.set_cons_zero, List.set_cons_succ])
          refine wpAnyH_take (i := 3) (oi := ⟨some 71, Op.move (Operand.tmp 9), 3, _, _, none⟩) (v := ?vre3) rfl (by kernel_rfl) (by kernel_rfl) (by kernel_rfl) (fun _ _ _ h => h) (Or.inl ⟨by rfl, ?hre3⟩) hS0 ?rre3
          case hre3 => (intro wz hSw; go_simp <;> with_reducible rfl)
          (try simp only [Act.put, List.setIfInBounds_toArray, List.set_cons_zero, List.set_cons_succ])
          refine wpAnyH_take (i := 4) (oi := ⟨some 72, Op.indexAddr 44 (Operand.tmp 70) (Operand.tmp 71), 0, _, _, none⟩) (v := ?vre4) rfl (by kernel_rfl) (by kernel_rfl) (by kernel_rfl) (fun _ _ _ h => h) (Or.inl ⟨by rfl, ?hre4⟩) hS0 ?rre4
          case hre4 => (intro wz hSw; go_simp <;> with_reducible rfl)
          (try simp only [Act.put, List.setIfInBounds_toArray, List.set_cons_zero, List.set_cons_succ])
          refine wpAnyH_take (i := 5) (oi := ⟨some 73, Op.indexAddr 45 (Operand.tmp 72) (Operand.const (Value.int IntKind.i64 0)), 0, _, _, none⟩) (v := ?vre5) rfl (by kernel_rfl) (by kernel_rfl) (by kernel_rfl) (fun _ _ _ h => h) (Or.inl ⟨by rfl, ?hre5⟩) hS0 ?rre5
          case hre5 => (intro wz hSw; go_simp <;> with_reducible rfl)
          (try simp only [Act.put, List.setIfInBounds_toArray, List.set_cons_zero, List.set_cons_succ])
          refine wpAnyH_take (i := 6) (oi := ⟨some 74, Op.load 3 (Operand.tmp 73), 3, _, _, none⟩) (v := ?vre6) rfl (by kernel_rfl) (by kernel_rfl) (by kernel_rfl) (fun _ _ _ h => h) (Or.inl ⟨by rfl, ?hre6⟩) hS0 ?rre6
          case hre6 => (intro wz hSw; obtain ⟨e0, e1⟩ := HC.out wz hSw; go_simp <;> with_reducible rfl)
          (try simp only [Act.put, List.setIfInBounds_toArray, List.set_cons_zero, List.set_cons_succ])
          refine wpAnyH_take (i := 7) (oi := ⟨some 75, Op.move (Operand.tmp 0), 44, _, _, none⟩) (v := ?vre7) rfl (by kernel_rfl) (by kernel_rfl) (by kernel_rfl) (fun _ _ _ h => h) (Or.inl ⟨by rfl, ?hre7⟩) hS0 ?rre7
          case hre7 => (intro wz hSw; go_simp <;> with_reducible rfl)
          (try simp only [Act.put, List.setIfInBounds_toArray, List.set_cons_zero, List.set_cons_succ])
          refine wpAnyH_take (i := 8) (oi := ⟨some 76, Op.move (Operand.tmp 9), 3, _, _, none⟩) (v := ?vre8) rfl (by kernel_rfl) (by kernel_rfl) (by kernel_rfl) (fun _ _ _ h => h) (Or.inl ⟨by rfl, ?hre8⟩) hS0 ?rre8
          case hre8 => (intro wz hSw; go_simp <;> with_reducible rfl)
          (try simp only [Act.put, List.setIfInBounds_toArray, List.set_cons_zero, List.set_cons_succ])
          refine wpAnyH_take (i := 9) (oi := ⟨some 77, Op.indexAddr 44 (Operand.tmp 75) (Operand.tmp 76), 0, _, _, none⟩) (v := ?vre9) rfl (by kernel_rfl) (by kernel_rfl) (by kernel_rfl) (fun _ _ _ h => h) (Or.inl ⟨by rfl, ?hre9⟩) hS0 ?rre9
          case hre9 => (intro wz hSw; go_simp <;> with_reducible rfl)
          (try simp only [Act.put, List.setIfInBounds_toArray, List.set_cons_zero, List.set_cons_succ])
          refine wpAnyH_take (i := 10) (oi := ⟨some 78, Op.indexAddr 45 (Operand.tmp 77) (Operand.const (Value.int IntKind.i64 1)), 0, _, _, none⟩) (v := ?vre10) rfl (by kernel_rfl) (by kernel_rfl) (by kernel_rfl) (fun _ _ _ h => h) (Or.inl ⟨by rfl, ?hre10⟩) hS0 ?rre10
          case hre10 => (intro wz hSw; go_simp <;> with_reducible rfl)
          (try simp only [Act.put, List.setIfInBounds_toArray, List.set_cons_zero, List.set_cons_succ])
          refine wpAnyH_take (i := 11) (oi := ⟨some 79, Op.load 3 (Operand.tmp 78), 3, _, _, none⟩) (v := ?vre11) rfl (by kernel_rfl) (by kernel_rfl) (by kernel_rfl) (fun _ _ _ h => h) (Or.inl ⟨by rfl, ?hre11⟩) hS0 ?rre11
          case hre11 => (intro wz hSw; obtain ⟨e0, e1⟩ := HC.out wz hSw; go_simp <;> with_reducible rfl)
          (try simp only [Act.put, List.setIfInBounds_toArray, List.set_cons_zero, List.set_cons_succ])
          refine wpAnyH_take (i := 12) (oi := ⟨some 80, Op.build 32 #[(0, Operand.tmp 74), (1, Operand.tmp 79)], 32, _, _, none⟩) (v := ?vre12) rfl (by kernel_rfl) (by kernel_rfl) (by kernel_rfl) (fun _ _ _ h => h) (Or.inl ⟨by rfl, ?hre12⟩) hS0 ?rre12
          case hre12 => (intro wz hSw; go_simp <;> with_reducible rfl)
          (try simp only [Act.put, List.setIfInBounds_toArray, List.set_cons_zero, List.set_cons_succ])
          refine wpAnyH_take (i := 14) (oi := ⟨some 82, Op.move (Operand.tmp 10), 4, _, _, none⟩) (v := ?vre14) rfl (by kernel_rfl) (by kernel_rfl) (by kernel_rfl) (fun _ _ _ h => h) (Or.inl ⟨by rfl, ?hre14⟩) hS0 ?rre14
          case hre14 => (intro wz hSw; go_simp <;> with_reducible rfl)
          (try simp only [Act.put, List.setIfInBounds_toArray, List.set_cons_zero, List.set_cons_succ])
          refine wpAnyH_ready (rs := [13]) (by kernel_rfl) (by simp) ?_
          refine AllReadyH.cons (o := ⟨some 81, Op.call { callee := Callee.value (Operand.func 8), args := #[Operand.tmp 68, Operand.tmp 69, Operand.tmp 80], argTypes := #[24, 3, 32] }, 4, _, _, none⟩) rfl (fun K hK => ?_) AllReadyH.nil
          go_simp
          (with_reducible refine (fa_put HXd.out (i : Int) s.a0 s.a1 HIf.out HN.out false HOB).mono ?_); rintro e v1 ⟨rfl, L2, HX2⟩; have hS1 : Below W.heap.size W v1 := HX2.out.wb
          refine hK.out _ _ hS1 (fun _ => ?_)
          clear hK K
          (try simp only [Act.put, List.setIfInBounds_toArray, List.set_cons_zero, List.set_cons_succ])
          refine wpAnyH_take (i := 15) (oi := ⟨some 83, Op.binOp BinOp.neq 4 (Operand.tmp 81) (Operand.tmp 82) 4, 4, _, _, none⟩) (v := ?vre15) rfl (by kernel_rfl) (by kernel_rfl) (by kernel_rfl) (fun _ _ _ h => h) (Or.inl ⟨by rfl, ?hre15⟩) hS1 ?rre15
          case hre15 => (intro wz hSw; go_simp <;> with_reducible rfl)
          (try simp only [Act.put, List.setIfInBounds_toArray, List.set_cons_zero, List.set_cons_succ])
          refine wpAnyH_done (by kernel_rfl) ?_ _
          refine NoPanic.normal ?_
          generalize hv9 : v1 = V2 at HX2 ⊢
          clear hv9
          go_wp2
          go_roundg (l0.length - (i + 1))
          · exact ⟨i + 1, L2, hi1, rfl, by go_num, Lib.hid (by rw [show 2 * (i + 1) = 2 * i + 2 by omega]; exact HX2.out)⟩
          · omega
      · have hll : decide ((i : Int) < l0.length) = false := by simp; omega
        have hil2 : i = l0.length := by omega
        obtain ⟨lN, hlN⟩ : ∃ l, ids L (nr px py r) = l := ⟨_, rfl⟩
        obtain ⟨lI, hlI⟩ : ∃ l, ids L (fun _ => true) = l := ⟨_, rfl⟩
        have HlN := Lib.hid hlN
        have HlI := Lib.hid hlI
        have hnI : lI.length = L.length := by rw [← hlI]; exact all_len L
        have HLl := Lib.hid (HX.out.good.2)
        have hI9 : (lI.length : Int) ≤ 5000 := by have := HLl.out; have := HLb.out; omega
        have hN9 : (lN.length : Int) ≤ 5000 := by have : lN.length ≤ lI.length := by { rw [← hlN, ← hlI]; exact ids_more_len (fun _ _ => rfl) }
                                                  omega
        have HnI := Lib.hid hnI
        clear hlN hlI hnI
        generalize hM : 2 * i = N at HX
        clear hM HLl
        obtain ⟨b0, b1⟩ := HX.out.box
        go_wp2_with (first
          | ((with_reducible refine (fa_near HX.out F1.out F2.out r FR.out lN HlN.out).mono ?_); rintro e w1 ⟨A1, c1, rfl, HR1, HX1, HB1⟩; clear b0 b1)
          | ((with_reducible refine (fa_ids HX1.out lI HlI.out).mono ?_); rintro e w2 ⟨A2, c2, rfl, HR2, HX2, HB2⟩))
        have HR1' : Hid (Mei.Rd .i64 w2 w2.heap.size A1 lN) := Lib.hid ((HR1.out.below HB2.out (Nat.le_refl _)).more HB2.out.size)
        clear HR1 HB1 HB2 HX1 HX
        go_loopg [13, 14] lI.length (fun m s13 s14 wq => ∃ (j : Nat), j ≤ lI.length ∧ m = lI.length - j ∧ s14 = .int .i64 (j : Int) ∧ s13 = .int .i64 ((cnt L (nr px py r) j : Nat) : Int) ∧ Hid (FA W wq N xb L px py []) ∧ Hid (Below w2.heap.size w2 wq))
        case atStart => exact ⟨0, by omega, rfl, rfl, by rw [cnt_zero]; rfl, HX2, Lib.hid (Below.refl _ _)⟩
        case round =>
          clear HX2
          obtain ⟨j, hj, rfl, rfl, rfl, HX, HB⟩ := hrel
          by_cases hjl : j < lI.length
          · have hjl' : (j : Int) < lI.length := by omega
            have hjp : (0 : Int) ≤ (j : Int) := by omega
            have hj1 : j + 1 ≤ lI.length := hjl
            have hjL : j < L.length := by have := HnI.out; omega
            have HRI := Lib.hid (HR2.out.below HB.out (Nat.le_refl _))
            have HRN := Lib.hid (HR1'.out.below HB.out (Nat.le_refl _))
            obtain ⟨bI, offI, gi, hA, hbI, hgi, q0⟩ := HRI.out.at' hjl
            have HGI := Lib.hid hgi
            have hge : gi = (g L j).id := by rw [← HlI.out, all_get hjL] at hgi; injection hgi with hgi; exact hgi.symm
            subst hA
            have HAT : Hid (∃ t, lk L gi = some t ∧ t.x = (g L j).x ∧ t.y = (g L j).y) := Lib.hid ⟨g L j, lk_of HX.out.good.1 (g_mem hjL) hge.symm, rfl, rfl⟩
            have hok := HX.out.good.1.ok _ (g_mem hjL)
            have HFI : Hid (Fits gi) := Lib.hid (by rw [hge]; exact hok.1)
            have ftx : Fits (g L j).x := by have := hok.2.1; unfold Fits; omega
            have fty : Fits (g L j).y := by have := hok.2.2; unfold Fits; omega
            obtain ⟨nb, hnb⟩ : ∃ nb, nr px py r (g L j) = nb := ⟨_, rfl⟩
            have HNR : Hid (∀ V', Calls Try.prog 21 #[pv px py, pv (g L j).x (g L j).y, .int .i64 r] V' fun e w' => e = .returned (.bool nb) ∧ Below V'.heap.size V' w') := Lib.hid (fun V' => by rw [← hnb]; exact near_any px py (g L j).x (g L j).y r V' F1.out F2.out ftx fty FR.out)
            have HYES : Hid (nb = true → lN[cnt L (nr px py r) j]? = some gi ∧ cnt L (nr px py r) (j + 1) = cnt L (nr px py r) j + 1) := Lib.hid (fun e => by
              rw [e] at hnb
              exact ⟨by rw [← HlN.out, hge]; exact at_yes' hjL hnb, cnt_yes hjL hnb⟩)
            have HNO : Hid (nb = false → (∀ x, lN[cnt L (nr px py r) j]? = some x → x ≠ gi) ∧ cnt L (nr px py r) (j + 1) = cnt L (nr px py r) j) := Lib.hid (fun e => by
              rw [e] at hnb
              exact ⟨fun x hx => by rw [hge]; exact at_no' HX.out.good.1 hjL hnb (by rw [HlN.out]; exact hx), cnt_no hjL hnb⟩)
            have hcl := cnt_le L (nr px py r) j
            have hLI : L.length = lI.length := HnI.out.symm
            clear hge hgi hok ftx fty hnb hjL
            generalize (g L j).x = gx at *
            generalize (g L j).y = gy at *
            generalize hcj : cnt L (nr px py r) j = cj at *
            generalize hcj1 : cnt L (nr px py r) (j + 1) = cj1 at *
            have hc5 : (cj : Int) ≤ 5000 := by omega
            have hc0 : (0 : Int) ≤ (cj : Int) := by omega
            clear hcl hLI
            go_wp2_with (first
              | ((with_reducible refine (fa_at HX.out gi gx gy HFI.out HAT.out).mono ?_); rintro e w5 ⟨rfl, HX5, HB5⟩; have HX6 := Lib.hid (HX5.out.step ((Below.refl _ w5).alloc (Nat.le_refl _) (.cells #[.int .i64 gx, .int .i64 gy] 32))); have HB6 := Lib.hid ((HB.out.trans (HB5.out.mono HB.out.size)).alloc ((HB.out.trans (HB5.out.mono HB.out.size)).size) (.cells #[.int .i64 gx, .int .i64 gy] 32)); obtain ⟨b0, b1⟩ := HX6.out.box; obtain ⟨y0, y1⟩ := new_pos w5 gx gy; clear HX5 HB5 HB HX)
              | ((with_reducible refine (HNR.out _).mono ?_); rintro e w7 ⟨rfl, hb7⟩; have HX7 := Lib.hid (HX6.out.step hb7); have HB7 := Lib.hid (HB6.out.trans (hb7.mono HB6.out.size)); clear hb7 HX6 HB6 b0 b1 y0 y1 q0))
            clear HRI HRN
            have HRI := Lib.hid (HR2.out.below HB7.out (Nat.le_refl _))
            have HRN := Lib.hid (HR1'.out.below HB7.out (Nat.le_refl _))
            have q0 : w7.cell? ⟨bI, offI + j, none⟩ = some (.int .i64 gi) := by
              obtain ⟨b', o', x', hA', _, hx', hc'⟩ := HRI.out.at' hjl
              injection hA' with hA'
              injection hA' with h1 h2
              subst h1
              subst h2
              rw [hc']
              rw [HGI.out] at hx'
              injection hx' with hx'
              rw [hx']
            cases nb with
            | true =>
              obtain ⟨hy1, hy2⟩ := HYES.out rfl
              have hcl := (List.getElem?_eq_some_iff.1 hy1).1
              obtain ⟨bN, offN, gn, hA', hbN, hgn, n0⟩ := HRN.out.at' hcl
              obtain rfl : gn = gi := by rw [hy1] at hgn; injection hgn with hgn; exact hgn.symm
              have hcl' : (cj : Int) < lN.length := by omega
              subst hA'
              subst hy2
              clear HYES HNO hy1 hgn hcl
              go_quiet (fail)
              go_wp2
              go_roundg (lI.length - (j + 1))
              · exact ⟨j + 1, hj1, rfl, by go_num, by go_num, Lib.hid (HX7.out.step (below_drewN (Below.refl _ _) _)), Lib.hid (below_drewN HB7.out _)⟩
              · omega
            | false =>
              obtain ⟨hy1, hy2⟩ := HNO.out rfl
              by_cases hcl : cj < lN.length
              · obtain ⟨bN, offN, gn, hA', hbN, hgn, n0⟩ := HRN.out.at' hcl
                have hne := hy1 _ hgn
                have hne2 : (gn == gi) = false := by simpa using hne
                have hcl' : (cj : Int) < lN.length := by omega
                subst hA'
                subst hy2
                clear HYES HNO hy1 hgn hcl
                go_quiet (fail)
                go_wp2
                go_roundg (lI.length - (j + 1))
                · exact ⟨j + 1, hj1, rfl, by go_num, by rw [hcj1], Lib.hid (HX7.out.step (below_drewN (Below.refl _ _) _)), Lib.hid (below_drewN HB7.out _)⟩
                · omega
              · have hcl' : decide ((cj : Int) < lN.length) = false := by simp; omega
                have hcl2 : decide (cj < lN.length) = false := by simp; omega
                subst hy2
                clear HYES HNO hy1 hcl
                go_quiet (fail)
                go_wp2
                go_roundg (lI.length - (j + 1))
                · exact ⟨j + 1, hj1, rfl, by go_num, by rw [hcj1], Lib.hid (HX7.out.step (below_drewN (Below.refl _ _) _)), Lib.hid (below_drewN HB7.out _)⟩
                · omega
          · have hjl2 : decide ((j : Int) < lI.length) = false := by simp; omega
            have hje : j = L.length := by have := HnI.out; omega
            have hcn : cnt L (nr px py r) j = lN.length := by rw [hje, cnt_all, HlN.out]
            rw [hcn]
            clear hcn hje
            have HMON : Hid (∀ l, 0 ≤ r → ids L (nr px py (r + 1)) = l → lN.length ≤ l.length) := Lib.hid (fun l h0 hl => by rw [← hl, ← HlN.out]; exact ids_more_len (fun t ht => near_more px py t.x t.y r h0 ht))
            obtain ⟨b0, b1⟩ := HX.out.box
            by_cases hr0 : r < 0
            · go_wp2
              go_ret
              exact ⟨rfl, HX.out.wb⟩
            · have hr1 : decide (r < 0) = false := by simpa using hr0
              by_cases hr2 : r > 1048576
              · go_wp2
                go_ret
                exact ⟨rfl, HX.out.wb⟩
              · have hr3 : decide (r > 1048576) = false := by simpa using hr2
                have hr4 : decide (1048576 < r) = false := by simpa using hr2
                have hw : wrap64 (r + 1) = r + 1 := IntWalk.wrap64_in _ (by omega)
                obtain ⟨lM, hlM⟩ : ∃ l, ids L (nr px py (r + 1)) = l := ⟨_, rfl⟩
                have HlM := Lib.hid hlM
                have hge : (lM.length : Int) ≥ lN.length := by have := HMON.out lM (by omega) hlM; omega
                have HF : Hid (Fits (r + 1)) := Lib.hid ⟨by omega, by omega⟩
                clear hlM HMON
                go_wp2_with ((with_reducible refine (fa_near HX.out F1.out F2.out (r + 1) HF.out lM HlM.out).mono ?_); rintro e w9 ⟨A9, c9, rfl, _, HX9, _⟩)
                go_ret
                exact ⟨rfl, HX9.out.wb⟩


set_option maxRecDepth 100000 in
theorem lifted (os : Os) (started : os.Started) (H : Type) (enc : TypeId × Value → H) :
    ReturnsInHanded {} Try.checked os 4 .any (Rows.cellsFindsSpec.pre6 enc Try.prog Try.f4 Rows.cellsFindsRow.domain false) (Rows.cellsFindsSpec.post enc Try.prog Try.f4 false true false false) := by
  refine returnsInHanded_of_change (C := Try.checked) own started (by kernel_rfl) Try.func4
    (ChangeSpec.witness6 (enc := enc) (C := Try.checked) false ⟨#[], #[.slice none 0 0, .agg #[.int .i64 0, .int .i64 0], .int .i64 0], []⟩ 8 (by kernel_rfl) (by kernel_rfl) (by kernel_rfl) (by kernel_rfl)) ?_
  intro W base args ds gs before hval0 hW hcnd _
  have hval : ∀ (j : Nat) t v, Try.f4.params[j]? = some t → args[j]? = some v → Value.okWide Try.prog W .any base t v := hval0
  have hW' := hW
  obtain ⟨p, q, hA0, hV, rfl, hfz, hnd⟩ := hW
  have hA : DataW.TrodAll enc Try.prog W 0 (fun _ => true) true Try.f4.params.toList args.toList ds p := hA0
  rw [Try.params4] at hA hval
  obtain ⟨v0, vs0, d0, ds0, p0, q0, hargs, rfl, rfl, h0, r0⟩ := trodAll_cons hA
  obtain ⟨v1, vs1, d1, ds1, p1, q1, rfl, rfl, rfl, h1, r1⟩ := trodAll_cons r0
  obtain ⟨v2, vs2, d2, ds2, p2, q2, rfl, rfl, rfl, h2, r2⟩ := trodAll_cons r1
  obtain ⟨rfl, rfl, rfl⟩ := trodAll_nil r2
  obtain rfl : args = #[v0, v1, v2] := by cases args; simp_all
  obtain ⟨rfl, rfl⟩ := trodVars_none hV
  clear hA0 hval0
  have hlt0 : ∀ x ∈ p0, x.block < W.heap.size := fun x hx => hW'.lt x (by simp [hx])
  have hk0 := h0
  obtain ⟨A0, c0, l0, rfl, hr0, hc0, hm0, hx0⟩ := Open.view2 (hval 0 44 v0 rfl rfl) h0 hlt0
  have hlt1 : ∀ x ∈ p1, x.block < W.heap.size := fun x hx => hW'.lt x (by simp [hx])
  have hk1 := h1
  obtain ⟨x1, y1, rfl, fx1, fy1⟩ := Open.viewP (hval 1 32 v1 rfl rfl) h1
  obtain ⟨a2, rfl, rfl, rfl, w2⟩ := open_int Try.underlying3 (hval 2 3 v2 rfl rfl) h2
  simp only [List.append_nil] at hW'
  refine (walk W A0 c0 l0 hr0 hc0 hm0 hx0 x1 y1 fx1 fy1 a2 (Open.fits_of w2)).mono fun e W' ⟨he, hg⟩ => ?_
  subst he
  exact ⟨_, rfl, _, _, _, [], _, [], hW', (trodAll_cons_mk (shut_bool Try.underlying4 _) trodAll_mk0), (trodAll_cons_mk (Below.trod Open.laidOut (by kernel_rfl) (of_decide_eq_true (by kernel_rfl)) hk0 hg hlt0) (trodAll_cons_mk (Below.trod Open.laidOut (by kernel_rfl) (of_decide_eq_true (by kernel_rfl)) hk1 hg hlt1) (trodAll_cons_mk (shut_int Try.underlying3 w2) trodAll_mk0))), rfl, hg.frame _, fun h => by cases h⟩

theorem over : Rows.cellsFindsRow.holds Try.pinned (OpenSpec.ofChange Rows.cellsFindsSpec) :=
  OpenClaim.holds_of_wide 4 Try.f4 rfl rfl rfl rfl rfl rfl rfl ⟨rfl, rfl, rfl, rfl, rfl⟩ rfl rfl rfl rfl rfl (by kernel_rfl) Try.func4 (by kernel_rfl)
    (of_decide_eq_true (by kernel_rfl)) (by unfold Func.isWrapper; first | (rw [if_pos (by decide +kernel)]; kernel_rfl) | (rw [if_neg (by decide +kernel)]; exact ⟨rfl, rfl⟩))
    (fun os started H enc _ => lifted os started H enc)

/-- The given statement. -/
theorem proved : Rows.CellsFindsSaid :=
  over
#print axioms proved
end Go.Proofs.Ytehllnbpianpfaa.cellsFinds
