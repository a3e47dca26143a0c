/-
  A feed: a struct of bytes that wait and whether it is dead; contracts of New, Waits, Dead, die and keep, and of readFrame over a row of the call's own.
-/
import Derived.Test.YtcefkjeoknaijaaRfr
namespace Go.Proofs.Ytcefkjeoknaijaa.Con
open Go.RowKit Mth Mem

/-- Block g is one struct of type t that holds two values. -/
def Duo (w : World) (g : Nat) (t : TypeId) (u v : Value) : Prop := w.heap[g]? = some (.cells #[u, v] t (0, 0))
theorem Duo.lt {w : World} {g : Nat} {t : TypeId} {u v : Value} (h : Duo w g t u v) : g < w.heap.size := (Array.getElem?_eq_some_iff.1 h).1
theorem Duo.cell0 {w : World} {g : Nat} {t : TypeId} {u v : Value} (h : Duo w g t u v) : w.cell? ⟨g, 0, none⟩ = some u := (cell_of_row w g 0 #[u, v] t (0, 0) h).trans rfl
theorem Duo.cell1 {w : World} {g : Nat} {t : TypeId} {u v : Value} (h : Duo w g t u v) : w.cell? ⟨g, 1, none⟩ = some v := (cell_of_row w g 1 #[u, v] t (0, 0) h).trans rfl
theorem Duo.frozen0 {w : World} {g : Nat} {t : TypeId} {u v : Value} (h : Duo w g t u v) : w.frozen? ⟨g, 0, none⟩ = false := by
  unfold Duo at h; simp [World.frozen?, h]
theorem Duo.frozen1 {w : World} {g : Nat} {t : TypeId} {u v : Value} (h : Duo w g t u v) : w.frozen? ⟨g, 1, none⟩ = false := by
  unfold Duo at h; simp [World.frozen?, h]
theorem Duo.set0 {w : World} {g : Nat} {t : TypeId} {u v : Value} (h : Duo w g t u v) (x : Value) : Duo (w.setCell ⟨g, 0, none⟩ x) g t x v := by
  unfold Duo at h ⊢
  simp [World.setCell, Array.getElem?_modify, h]
theorem Duo.set1 {w : World} {g : Nat} {t : TypeId} {u v : Value} (h : Duo w g t u v) (x : Value) : Duo (w.setCell ⟨g, 1, none⟩ x) g t u x := by
  unfold Duo at h ⊢
  simp [World.setCell, Array.getElem?_modify, h]
theorem Duo.keep {w w' : World} {g : Nat} {t : TypeId} {u v : Value} (h : Duo w g t u v) (hk : w'.heap[g]? = w.heap[g]?) : Duo w' g t u v := hk.trans h
theorem Duo.below {w w' : World} {g B : Nat} {t : TypeId} {u v : Value} (h : Duo w g t u v) (hb : Below B w w') (hB : w.heap.size ≤ B) : Duo w' g t u v := h.keep (hb.block g (by have := h.lt; omega))
theorem Duo.ne {w : World} {g : Nat} {t : TypeId} {u v : Value} (h : Duo w g t u v) {base : Nat} {K : IntKind} {A : Option Addr} {c : Nat} {l : List Int} (ho : Own w base K 5 A c l) (ht : 5 ≠ t) : blk A ≠ some g := by
  intro e
  rcases ho.2 with ⟨hv, _⟩ | ⟨g2, cap, cur, hv, _, hh, _⟩
  · injection hv with hv; subst hv; simp [blk] at e
  · injection hv with hv
    subst hv
    simp only [blk, Option.map_some, Option.some.injEq] at e
    subst e
    unfold Duo at h
    rw [hh] at h
    injection h with h
    injection h with _ h
    exact ht h

/-- Only block g, block r, and what is new, has turned. -/
structure Turn (w w' : World) (g : Nat) (r : Option Nat) : Prop where
  os : w'.os = w.os
  tape : w'.tape = w.tape
  output : w'.output = w.output
  size : w.heap.size ≤ w'.heap.size
  block : ∀ k, k < w.heap.size → k ≠ g → some k ≠ r → w'.heap[k]? = w.heap[k]?
theorem Turn.refl (w : World) (g : Nat) (r : Option Nat) : Turn w w g r := ⟨rfl, rfl, rfl, Nat.le_refl _, fun _ _ _ _ => rfl⟩
theorem Turn.below {w w' : World} {g : Nat} {r : Option Nat} {B : Nat} (h : Turn w w' g r) (hB : B ≤ w.heap.size) (hg : B ≤ g) (hr : ∀ k, r = some k → B ≤ k) : Below B w w' :=
  ⟨h.os, h.tape, h.output, h.size, fun k hk => h.block k (by omega) (by omega) (fun e => by have := hr k e.symm; omega)⟩
theorem Turn.of_grown {w w' : World} {g : Nat} {r : Option Nat} (h : w.grownBy w' r) : Turn w w' g r := ⟨h.os, h.tape, h.output, h.size, fun k hk _ hr => h.block k hk hr⟩
theorem Turn.of_below {w w' : World} {g : Nat} {r : Option Nat} (h : Below w.heap.size w w') : Turn w w' g r := ⟨h.os, h.tape, h.output, h.size, fun k hk _ _ => h.block k hk⟩
theorem Turn.setCell {w w' : World} {g o : Nat} {r : Option Nat} (h : Turn w w' g r) (u : Value) : Turn w (w'.setCell ⟨g, o, none⟩ u) g r :=
  ⟨h.os, h.tape, h.output, by simpa [World.setCell] using h.size, fun k hk hg hr => (Below.heap_setCell w' ⟨g, o, none⟩ u k hg).trans (h.block k hk hg hr)⟩
theorem Turn.trans {a b c : World} {g : Nat} {r : Option Nat} (h : Turn a b g r) (k : Turn b c g r) : Turn a c g r :=
  ⟨k.os.trans h.os, k.tape.trans h.tape, k.output.trans h.output, Nat.le_trans h.size k.size, fun i hi hg hr => (k.block i (by have := h.size; omega) hg hr).trans (h.block i hi hg hr)⟩
theorem Turn.none_some {a b : World} {g : Nat} {r : Option Nat} (h : Turn a b g none) : Turn a b g r := ⟨h.os, h.tape, h.output, h.size, fun i hi hg _ => h.block i hi hg (by simp)⟩

/-- A feed: a struct at block g, with a slice of the call's own (its row: block r) that holds l, and whether it is dead. -/
def Feed (w : World) (base g : Nat) (r : Option Nat) (l : List Int) (d : Bool) : Prop :=
  ∃ A c, Duo w g 41 (.slice A l.length c) (.bool d) ∧ base ≤ g ∧ Own w base .u8 5 A c l ∧ blk A = r
theorem Feed.keep {w w' : World} {base g : Nat} {r : Option Nat} {l : List Int} {d : Bool} (h : Feed w base g r l d) (hg : w'.heap[g]? = w.heap[g]?) (hr : ∀ k, r = some k → w'.heap[k]? = w.heap[k]?) : Feed w' base g r l d := by
  obtain ⟨A, c, h1, h2, h3, h4⟩ := h
  exact ⟨A, c, h1.keep hg, h2, own_far h3 (fun k hk => hr k (h4 ▸ (blk_own A l.length c).symm.trans hk)), h4⟩
theorem Feed.lt {w : World} {base g : Nat} {r : Option Nat} {l : List Int} {d : Bool} (h : Feed w base g r l d) : base ≤ g ∧ g < w.heap.size ∧ ∀ k, r = some k → base ≤ k ∧ k < w.heap.size := by
  obtain ⟨A, c, h1, h2, h3, h4⟩ := h
  exact ⟨h2, h1.lt, fun k hk => h3.lt k (h4.trans hk)⟩
theorem Feed.below {w w' : World} {B base g : Nat} {r : Option Nat} {l : List Int} {d : Bool} (h : Feed w base g r l d) (hb : Below B w w') (hB : w.heap.size ≤ B) : Feed w' base g r l d := by
  have := h.lt
  exact h.keep (hb.block g (by omega)) (fun k hk => hb.block k (by have := this.2.2 k hk; omega))
theorem Feed.drewN {w : World} {base g : Nat} {r : Option Nat} {l : List Int} {d : Bool} (h : Feed w base g r l d) (n : Nat) : Feed (w.drewN n) base g r l d := h
theorem Feed.alloc {w : World} {base g : Nat} {r : Option Nat} {l : List Int} {d : Bool} (h : Feed w base g r l d) (o : Obj) : Feed (w.alloc o) base g r l d := h.below (((Below.refl w.heap.size w).alloc (Nat.le_refl _) o)) (Nat.le_refl _)

theorem new_any (w : World) : Calls Try.prog 9 #[] w fun e w' => e = .returned (.pointer (some ⟨w.heap.size, 0, none⟩)) ∧ w' = w.alloc (.cells #[.slice none 0 0, .bool false] 41) := by
  go_enter Try.func9, Try.ntmps9
  go_wp2
  go_ret
  exact ⟨rfl, rfl⟩
theorem feed_new (w : World) : Feed (w.alloc (.cells #[.slice none 0 0, .bool false] 41)) w.heap.size w.heap.size none [] false :=
  ⟨none, 0, heap_alloc_new w _, Nat.le_refl _, World.ownsRow_nil _ _ 5 1, rfl⟩

theorem waits_any {w : World} {base g : Nat} {r : Option Nat} {l : List Int} {d : Bool} (h : Feed w base g r l d) : Calls Try.prog 13 #[.pointer (some ⟨g, 0, none⟩)] w fun e w' => e = .returned (.int .i64 l.length) ∧ w = w' := by
  obtain ⟨A, c, hd, _, ho, _⟩ := h
  have hc := hd.cell0
  clear ho hd
  go_enter Try.func13, Try.ntmps13
  go_wp2
  go_ret
  exact ⟨rfl, rfl⟩
theorem dead_any {w : World} {base g : Nat} {r : Option Nat} {l : List Int} {d : Bool} (h : Feed w base g r l d) : Calls Try.prog 14 #[.pointer (some ⟨g, 0, none⟩)] w fun e w' => e = .returned (.bool d) ∧ w = w' := by
  obtain ⟨A, c, hd, _, ho, _⟩ := h
  have hc := hd.cell1
  clear ho hd
  go_enter Try.func14, Try.ntmps14
  go_wp2
  go_ret
  exact ⟨rfl, rfl⟩
theorem die_any {w : World} {g : Nat} {u v : Value} (hd : Duo w g 41 u v) : Calls Try.prog 18 #[.pointer (some ⟨g, 0, none⟩)] w fun e w' => e = .returned (.tuple #[]) ∧ (w.setCell ⟨g, 0, none⟩ (.slice none 0 0)).setCell ⟨g, 1, none⟩ (.bool true) = w' := by
  have hc := hd.cell0
  have hf := hd.frozen0
  have hc1 := (hd.set0 (.slice none 0 0)).cell1
  have hf1 := (hd.set0 (.slice none 0 0)).frozen1
  clear hd
  go_enter Try.func18, Try.ntmps18
  go_wp2
  go_end0
  exact ⟨rfl, rfl⟩

theorem own_cases {w : World} {base : Nat} {K : IntKind} {e : TypeId} {A : Option Addr} {c : Nat} {l : List Int} (h : Own w base K e A c l) : (A = none ∧ l = [] ∧ c = 0) ∨ ∃ g, A = some ⟨g, 0, none⟩ ∧ l.length ≤ c := by
  rcases h.2 with ⟨hv, h0⟩ | ⟨g, cap, cur, hv, _, _, hn, _⟩
  · injection hv with h1 _ h3
    exact .inl ⟨h1, List.eq_nil_of_length_eq_zero h0, h3⟩
  · injection hv with h1 _ h3
    exact .inr ⟨g, h1, by omega⟩

/-- keep of a row from a place behind its head on. -/
theorem keep_pos {w : World} {base g : Nat} {u v : Value} (hd : Duo w g 41 u v) (A : Option Addr) (c : Nat) (l : List Int) (a : Nat) (ho : Own w base .u8 5 A c l) (ha0 : 0 < a) (ha : a ≤ l.length) (hl : (l.length : Int) ≤ 90000) :
    Calls Try.prog 19 #[.pointer (some ⟨g, 0, none⟩), .slice A l.length c, .int .i64 a] w fun e w' => ∃ x A1 c1, Hid (x = l.drop a) ∧ e = .returned (.tuple #[]) ∧ Hid (Duo w' g 41 (.slice A1 x.length c1) v) ∧ Hid (Own w' w.heap.size .u8 5 A1 c1 x) ∧ Hid (Turn w w' g none) := by
  rcases own_cases ho with ⟨_, rfl, _⟩ | ⟨b, rfl, hlc⟩
  · simp at ha; omega
  · have hr := Rd.of_own ho
    have HRc : Hid (Rd .u8 w w.heap.size (some ⟨b, a, none⟩) (l.drop a)) := Lib.hid (by simpa using Rd.cut hr a)
    have HDL := Lib.hid (List.length_drop (i := a) (l := l))
    have HD0 : Hid (c = a → l.drop a = []) := fun e => List.drop_eq_nil_of_le (by omega)
    have HD := Lib.hid hd; have HO := Lib.hid ho
    clear hd ho hr
    go_enter Try.func19, Try.ntmps19
    go_wp2_with (first
      | ((with_reducible refine (clone_any _ _ _ (l.drop a) HDL.out _ w.heap.size HRc.out (Nat.le_refl _) (by rw [HDL.out]; omega)).mono ?_); rintro e w1 ⟨x, A1, c1, HX, rfl, HO1, HB1⟩; have hd1 := HD.out.below HB1.out (Nat.le_refl _); have hc1 := hd1.cell0; have hf1 := hd1.frozen0; have HD1 := Lib.hid hd1; clear hd1)
      | ((with_reducible refine (clone_any _ _ _ (l.drop a) HDL.out _ w.heap.size (rd_empty (HD0.out (by omega))) (Nat.le_refl _) (by rw [HDL.out]; omega)).mono ?_); rintro e w1 ⟨x, A1, c1, HX, rfl, HO1, HB1⟩; have hd1 := HD.out.below HB1.out (Nat.le_refl _); have hc1 := hd1.cell0; have hf1 := hd1.frozen0; have HD1 := Lib.hid hd1; clear hd1))
    all_goals
      go_end0
      exact ⟨x, A1, c1, HX, rfl, HD1.out.set0 _, own_far HO1.out (fun k hk => Below.heap_setCell _ _ _ _ (by have h1 := HO1.out.lt k ((blk_own A1 x.length c1).symm.trans hk); have h2 := HD.out.lt; simp only; omega)), (Turn.of_below HB1.out).setCell _⟩
theorem keep_zero {w : World} {g : Nat} {u v : Value} (hd : Duo w g 41 u v) (A : Option Addr) (n c : Nat) :
    Calls Try.prog 19 #[.pointer (some ⟨g, 0, none⟩), .slice A n c, .int .i64 0] w fun e w' => e = .returned (.tuple #[]) ∧ w.setCell ⟨g, 0, none⟩ (.slice A n c) = w' := by
  have hc1 := hd.cell0
  have hf1 := hd.frozen0
  clear hd
  go_enter Try.func19, Try.ntmps19
  go_wp2
  go_end0
  exact ⟨rfl, rfl⟩

/-! ### readFrame over a row of the call's own -/
section
variable {A : Option Addr} {c : Nat} {l : List Int} (hsh : (A = none ∧ l = [] ∧ c = 0) ∨ ∃ g, A = some ⟨g, 0, none⟩ ∧ l.length ≤ c) {a : Nat} {w : World} {B : Nat} (hr : Rd .u8 w B A l) (hB : B ≤ w.heap.size) (hl : (l.length : Int) ≤ 90000) (hb : Byt l) (ha : a ≤ l.length)
include hsh hr hB hl hb ha
theorem rfo_wait (h : st (l.drop a) = .wait) : Calls Try.prog 17 #[.slice A l.length c, .int .i64 a] w fun e w' => e = .returned (.tuple #[.slice none 0 0, .int .i64 a, .int .i64 8]) ∧ Below w.heap.size w w' := by
  rcases hsh with ⟨rfl, rfl, rfl⟩ | ⟨g, rfl, hlc⟩
  · obtain rfl : a = 0 := by simpa using ha
    exact rf_nil w
  · exact rf_wait g c l a w B hr hB hl hlc hb ha h
theorem rfo_bad {x : Int} (h : st (l.drop a) = .bad x) : Calls Try.prog 17 #[.slice A l.length c, .int .i64 a] w fun e w' => e = .returned (.tuple #[.slice none 0 0, .int .i64 a, .int .i64 x]) ∧ Below w.heap.size w w' := by
  rcases hsh with ⟨rfl, rfl, rfl⟩ | ⟨g, rfl, hlc⟩
  · simp only [List.drop_nil] at h
    cases h
  · exact rf_bad g c l a w B hr hB hl hlc hb ha h
theorem rfo_load {s n : Nat} (h : st (l.drop a) = .load s n) (q : Nat) (hq : a + s + n = q) : Calls Try.prog 17 #[.slice A l.length c, .int .i64 a] w fun e w' => ∃ x A1 c1, Hid (x = ((l.drop a).drop s).take n) ∧ e = .returned (.tuple #[.slice A1 x.length c1, .int .i64 q, .int .i64 0]) ∧ Hid (Own w' w.heap.size .u8 5 A1 c1 x) ∧ Hid (Below w.heap.size w w') := by
  rcases hsh with ⟨rfl, rfl, rfl⟩ | ⟨g, rfl, hlc⟩
  · simp only [List.drop_nil] at h
    cases h
  · exact rf_load g c l a w B hr hB hl hlc hb ha h q hq
end
end Go.Proofs.Ytcefkjeoknaijaa.Con
