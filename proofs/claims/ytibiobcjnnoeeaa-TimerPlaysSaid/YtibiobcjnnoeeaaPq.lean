/-
  A queue of the law's own, all in new memory: one contract for each call; the small case.
-/
import Derived.Test.YtibiobcjnnoeeaaSam
namespace Go.Proofs.Ytibiobcjnnoeeaa.Con
open Go.RowKit Tmr Go.Maps

/-- A queue that lies in what the law has made since w0. -/
structure PQ (w0 w : World) (q mb : Nat) (S : List Tm) (last : Int) : Prop where
  ex : ∃ A c l, TQ w w0.heap.size q mb A c l S last
  below : Below w0.heap.size w0 w
section
variable {w0 w w' : World} {q mb : Nat} {S : List Tm} {last : Int}
theorem PQ.step (h : PQ w0 w q mb S last) (hb : Below w.heap.size w w') : PQ w0 w' q mb S last := by
  obtain ⟨⟨A, c, l, h1⟩, h2⟩ := h
  exact ⟨⟨A, c, l, h1.step hb⟩, h2.trans (hb.mono h2.size)⟩
theorem PQ.len (h : PQ w0 w q mb S last) : (S.length : Int) ≤ 2000 := by
  obtain ⟨⟨A, c, l, h1⟩, h2⟩ := h
  rw [← h1.len]
  exact h1.qs.len
theorem PQ.good (h : PQ w0 w q mb S last) : Tmr.Good S last := by
  obtain ⟨⟨A, c, l, h1⟩, h2⟩ := h
  exact h1.good
theorem TQ.low {A : Option Addr} {c : Nat} {l : List Tm} (h : TQ w w0.heap.size q mb A c l S last) (h2 : Below w0.heap.size w0 w) (ho : Off w w' (bls q mb A)) : Below w0.heap.size w0 w' :=
  h2.trans (ho.below h2.size (fun k hk => (h.qs.que.lo k hk).1))
theorem pq_new (hb : Below w0.heap.size w0 w) : Calls Try.prog 7 #[] w fun e w' => e = .returned (.pointer (some ⟨w.heap.size + 1, 0, none⟩)) ∧ Hid (PQ w0 w' (w.heap.size + 1) w.heap.size [] 0) := by
  refine (new_any w w0.heap.size hb.size).mono ?_
  rintro e w' ⟨rfl, h1, h2⟩
  exact ⟨rfl, Lib.hid ⟨⟨_, _, _, h1.out⟩, hb.trans (h2.out.mono hb.size)⟩⟩
theorem pq_len (h : PQ w0 w q mb S last) (n : Nat) (hn : S.length = n) : Calls Try.prog 11 #[.pointer (some ⟨q, 0, none⟩)] w fun e w' => e = .returned (.int .i64 n) ∧ w = w' := by
  obtain ⟨⟨A, c, l, h1⟩, h2⟩ := h
  exact qlen_s h1 n hn
theorem pq_add (h : PQ w0 w q mb S last) (hS : (S.length : Int) < 1024) (due tag m : Int) (hm : last + 1 = m) (hmb : m ≤ 100000) (S' : List Tm) (hS' : S ++ [⟨due, tag, m⟩] = S') : Calls Try.prog 12 #[.pointer (some ⟨q, 0, none⟩), .int .i64 due, .int .i64 tag] w fun e w' => e = .returned (.tuple #[.int .i64 m, .int .i64 0]) ∧ Hid (PQ w0 w' q mb S' m) := by
  obtain ⟨⟨A, c, l, h1⟩, h2⟩ := h
  refine (add_any h1 S.length rfl hS due tag m hm hmb).mono ?_
  rintro e w' ⟨rfl, A', c', l', k1, k2, k3⟩
  rw [hS'] at k1
  exact ⟨rfl, Lib.hid ⟨⟨A', c', l', k1.out⟩, h1.low h2 k2.out⟩⟩
theorem pq_full (h : PQ w0 w q mb S last) (hS : S.length = 1024) (due tag : Int) : Calls Try.prog 12 #[.pointer (some ⟨q, 0, none⟩), .int .i64 due, .int .i64 tag] w fun e w' => e = .returned (.tuple #[.int .i64 0, .int .i64 4]) ∧ w = w' := by
  obtain ⟨⟨A, c, l, h1⟩, h2⟩ := h
  exact add_full h1 hS due tag
theorem pq_cancel (h : PQ w0 w q mb S last) (id : Int) (hw : -9223372036854775808 ≤ id ∧ id ≤ 9223372036854775807) (x : Bool) (hx : hasId S id = x) (S' : List Tm) (hS' : del S id = S') : Calls Try.prog 14 #[.pointer (some ⟨q, 0, none⟩), .int .i64 id] w fun e w' => e = .returned (.bool x) ∧ Hid (PQ w0 w' q mb S' last) := by
  obtain ⟨⟨A, c, l, h1⟩, h2⟩ := h
  cases x with
  | false =>
    refine (cancel_no h1 id hw hx).mono ?_
    rintro e w' ⟨rfl, rfl⟩
    rw [del_none hx] at hS'
    subst hS'
    exact ⟨rfl, Lib.hid ⟨⟨A, c, l, h1⟩, h2⟩⟩
  | true =>
    refine (cancel_yes h1 id hw hx).mono ?_
    rintro e w' ⟨rfl, l', k1, k2⟩
    rw [hS'] at k1
    exact ⟨rfl, Lib.hid ⟨⟨A, c, l', k1.out⟩, h1.low h2 k2.out⟩⟩
theorem pq_cno (h : PQ w0 w q mb S last) (id : Int) (hw : -9223372036854775808 ≤ id ∧ id ≤ 9223372036854775807) (hx : hasId S id = false) : Calls Try.prog 14 #[.pointer (some ⟨q, 0, none⟩), .int .i64 id] w fun e w' => e = .returned (.bool false) ∧ w = w' := by
  obtain ⟨⟨A, c, l, h1⟩, h2⟩ := h
  exact cancel_no h1 id hw hx
theorem pq_due (h : PQ w0 w q mb S last) (now : Int) (C S' : List Tm) (hC : come S now = C) (hS' : rest S now = S') : Calls Try.prog 13 #[.pointer (some ⟨q, 0, none⟩), .int .i64 now] w fun e w' => ∃ Ac cc, e = .returned (.slice Ac C.length cc) ∧ Hid (RT w' w'.heap.size Ac C) ∧ Hid (PQ w0 w' q mb S' last) := by
  obtain ⟨⟨A, c, l, h1⟩, h2⟩ := h
  refine (due_any h1 now C S' hC hS').mono ?_
  rintro e w' ⟨Ac, cc, rfl, k1, l', k2, k3⟩
  exact ⟨Ac, cc, rfl, Lib.hid k1.out.rt, Lib.hid ⟨⟨A, c, l', k2.out⟩, h1.low h2 k3.out⟩⟩
theorem pq_none (h : PQ w0 w q mb S last) (hS : first S = none) : Calls Try.prog 9 #[.pointer (some ⟨q, 0, none⟩)] w fun e w' => e = .returned (.tuple #[.agg #[.int .i64 0, .int .i64 0, .int .i64 0], .bool false]) ∧ Hid (PQ w0 w' q mb S last) ∧ Hid (Below w.heap.size w w') := by
  have h' := h
  obtain ⟨⟨A, c, l, h1⟩, h2⟩ := h
  refine (next_none h1 hS).mono ?_
  rintro e w' ⟨rfl, hb⟩
  exact ⟨rfl, Lib.hid (h'.step hb), Lib.hid hb⟩
theorem pq_some (h : PQ w0 w q mb S last) (t : Tm) (ht : first S = some t) : Calls Try.prog 9 #[.pointer (some ⟨q, 0, none⟩)] w fun e w' => e = .returned (.tuple #[.agg #[.int .i64 t.due, .int .i64 t.tag, .int .i64 t.id], .bool true]) ∧ Hid (PQ w0 w' q mb S last) ∧ Hid (Below w.heap.size w w') := by
  have h' := h
  obtain ⟨⟨A, c, l, h1⟩, h2⟩ := h
  refine (next_some h1 t ht).mono ?_
  rintro e w' ⟨rfl, hb⟩
  exact ⟨rfl, Lib.hid (h'.step hb), Lib.hid hb⟩
end

/-! ### the small case -/
def S1 : List Tm := [⟨5, 1, 1⟩]
def S2 : List Tm := [⟨5, 1, 1⟩, ⟨3, 2, 2⟩]
def S3 : List Tm := [⟨5, 1, 1⟩, ⟨3, 2, 2⟩, ⟨5, 3, 3⟩]
def S4 : List Tm := [⟨5, 1, 1⟩, ⟨3, 2, 2⟩, ⟨5, 3, 3⟩, ⟨9, 4, 4⟩]
def C3 : List Tm := [⟨3, 2, 2⟩, ⟨5, 1, 1⟩, ⟨5, 3, 3⟩]
abbrev c3ob : Obj := .cells #[.int .i64 3, .int .i64 2, .int .i64 2, .int .i64 5, .int .i64 1, .int .i64 1, .int .i64 5, .int .i64 3, .int .i64 3] 33
theorem rt_c3 (w : World) : RT (w.alloc c3ob) (w.alloc c3ob).heap.size (some ⟨w.heap.size, 0, none⟩) C3 := by
  refine .inr ⟨w.heap.size, rfl, by simp, fun k t ht => ?_⟩
  have hc := fun o => cell_of_row (w.alloc c3ob) w.heap.size o _ 33 (0, 0) (heap_alloc_new w c3ob)
  have hk : k < 3 := (List.getElem?_eq_some_iff.1 ht).1
  rw [hc, hc, hc]
  rcases (by omega : k = 0 ∨ k = 1 ∨ k = 2) with rfl | rfl | rfl <;> (simp [C3] at ht; subst ht; exact ⟨rfl, rfl, rfl⟩)
theorem same_c3 {w : World} {A : Option Addr} {c : Nat} (ha : RT w w.heap.size A C3) : Calls Try.prog 16 #[.slice A C3.length c, .slice (some ⟨w.heap.size, 0, none⟩) 3 3] (w.alloc c3ob) fun e w' => e = .returned (.bool true) ∧ Below w.heap.size w w' := by
  have hb := (Below.refl w.heap.size w).alloc (Nat.le_refl _) c3ob
  refine (same_go (c := c) (c' := 3) (ha.below hb (Nat.le_refl _)) (rt_c3 w) rfl (by decide) true (by decide)).mono ?_
  rintro e w' ⟨rfl, k, rfl⟩
  exact ⟨rfl, hb.trans ((below_drewN _ _).mono (by simp))⟩
set_option maxHeartbeats 4000000 in
theorem small_any (w : World) : Calls Try.prog 6 #[] w fun e w' => e = .returned (.bool true) ∧ Below w.heap.size w w' := by
  go_enter Try.func6, Try.ntmps6
  go_wp2_with (first
    | ((with_reducible refine (pq_new (Below.refl w.heap.size w)).mono ?_); rintro e w1 ⟨rfl, HP1⟩)
    | ((with_reducible refine (pq_add HP1.out (by decide) 5 1 1 rfl (by omega) S1 rfl).mono ?_); rintro e w2 ⟨rfl, HP2⟩)
    | ((with_reducible refine (pq_add HP2.out (by decide) 3 2 2 rfl (by omega) S2 rfl).mono ?_); rintro e w3 ⟨rfl, HP3⟩)
    | ((with_reducible refine (pq_add HP3.out (by decide) 5 3 3 rfl (by omega) S3 rfl).mono ?_); rintro e w4 ⟨rfl, HP4⟩)
    | ((with_reducible refine (pq_add HP4.out (by decide) 9 4 4 rfl (by omega) S4 rfl).mono ?_); rintro e w5 ⟨rfl, HP5⟩)
    | ((with_reducible refine (pq_cancel HP5.out 4 (by omega) true (by decide) S3 (by decide)).mono ?_); rintro e w6 ⟨rfl, HP6⟩)
    | ((with_reducible refine (pq_due HP6.out 5 C3 [] (by decide) (by decide)).mono ?_); rintro e w7 ⟨Ac, cc, rfl, HR7, HP7⟩)
    | ((with_reducible refine (pq_cno HP7.out 4 (by omega) (by decide)).mono ?_); rintro e w8 ⟨rfl, rfl⟩)
    | ((with_reducible refine (same_c3 HR7.out).mono ?_); rintro e w9 ⟨rfl, hb9⟩; have HP9 := Lib.hid (HP7.out.step hb9); clear hb9)
    | ((with_reducible refine (pq_len HP9.out 0 rfl).mono ?_); rintro e w10 ⟨rfl, rfl⟩))
  go_ret
  exact ⟨rfl, HP9.out.below⟩
end Go.Proofs.Ytibiobcjnnoeeaa.Con
