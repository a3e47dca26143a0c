/-
  Words for memory: a row of units that the law's side has made; what a call may turn.
-/
import Derived.Test.YtehllnbpianpfaaCll
import Derived.Test.YtehllnbpianpfaaMei
import Derived.Maps.OwnSet
import Derived.ArgAppend
import Derived.Deep.Upon
import Derived.Deep.RegionLawGrows
namespace Go.Proofs.Ytehllnbpianpfaa.Con
open Go.RowKit Cll Go.Maps
theorem info57 : (Try.prog.info? 57).map (fun i => (i.zero, i.size, i.bytes)) = some (some (.agg #[.int .i64 0, .int .i64 0, .int .i64 0]), 3, 24) := by kernel_rfl
/-- The cells of a unit, and of a row of them. -/
def tv (t : Un) : List Value := [.int .i64 t.id, .int .i64 t.x, .int .i64 t.y]
def tvs : List Un → List Value
  | [] => []
  | t :: r => .int .i64 t.id :: .int .i64 t.x :: .int .i64 t.y :: tvs r
theorem tvs_length (l : List Un) : (tvs l).length = l.length * 3 := by
  induction l with
  | nil => rfl
  | cons t r ih => simp only [tvs, List.length_cons, ih]; omega
theorem tvs_app (l m : List Un) : tvs l ++ tvs m = tvs (l ++ m) := by
  induction l with
  | nil => rfl
  | cons t r ih => simp only [tvs, List.cons_append, ih]
theorem tvs_one (l : List Un) : ∀ u ∈ tvs l, u.oneCell' = true := by
  induction l with
  | nil => intro u hu; cases hu
  | cons t r ih =>
    intro u hu
    simp only [tvs, List.mem_cons] at hu
    rcases hu with rfl | rfl | rfl | hu
    · rfl
    · rfl
    · rfl
    · exact ih u hu
theorem tvs_at {l : List Un} {k : Nat} {t : Un} (h : l[k]? = some t) : (tvs l)[k * 3]? = some (.int .i64 t.id) ∧ (tvs l)[k * 3 + 1]? = some (.int .i64 t.x) ∧ (tvs l)[k * 3 + 2]? = some (.int .i64 t.y) := by
  induction l generalizing k with
  | nil => simp at h
  | cons x r ih =>
    cases k with
    | zero => simp at h; subst h; simp [tvs]
    | succ k =>
      rw [List.getElem?_cons_succ] at h
      obtain ⟨h1, h2, h3⟩ := ih h
      have e : (k + 1) * 3 = k * 3 + 1 + 1 + 1 := by omega
      rw [e]
      simp only [tvs, List.getElem?_cons_succ, Nat.add_right_comm _ 1 1]
      refine ⟨h1, ?_, ?_⟩
      · exact h2
      · exact h3
theorem tvs_take (l : List Un) (n : Nat) : (tvs l).take (n * 3) = tvs (l.take n) := by
  induction l generalizing n with
  | nil => simp [tvs]
  | cons x r ih =>
    cases n with
    | zero => simp [tvs]
    | succ n =>
      have e : (n + 1) * 3 = n * 3 + 1 + 1 + 1 := by omega
      rw [e]
      simp only [tvs, List.take_succ_cons, ih]
theorem tvs_set (l : List Un) (k : Nat) (t : Un) : tvs (l.set k t) = (((tvs l).set (k * 3) (.int .i64 t.id)).set (k * 3 + 1) (.int .i64 t.x)).set (k * 3 + 2) (.int .i64 t.y) := by
  induction l generalizing k with
  | nil => simp [tvs]
  | cons x r ih =>
    cases k with
    | zero => simp [tvs]
    | succ k =>
      have e : (k + 1) * 3 = k * 3 + 1 + 1 + 1 := by omega
      have e1 : (k + 1) * 3 + 1 = (k * 3 + 1) + 1 + 1 + 1 := by omega
      have e2 : (k + 1) * 3 + 2 = (k * 3 + 2) + 1 + 1 + 1 := by omega
      rw [e1, e2, e]
      simp only [tvs, List.set_cons_succ, ih]

theorem add_none (b off k : Nat) : (⟨b, off, none⟩ : Addr).add k = ⟨b, off + k, none⟩ := by unfold Addr.add; split <;> simp_all

/-- A slice at A reads as the units l. -/
def RT (w : World) (B : Nat) (A : Option Addr) (l : List Un) : Prop :=
  l = [] ∨ ∃ b, A = some ⟨b, 0, none⟩ ∧ b < B ∧ ∀ k t, l[k]? = some t → w.cell? ⟨b, k * 3, none⟩ = some (.int .i64 t.id) ∧ w.cell? ⟨b, k * 3 + 1, none⟩ = some (.int .i64 t.x) ∧ w.cell? ⟨b, k * 3 + 2, none⟩ = some (.int .i64 t.y)
theorem RT.keep {w w' : World} {B : Nat} {A : Option Addr} {l : List Un} (h : RT w B A l) (hk : ∀ b, (∃ o, A = some ⟨b, o, none⟩) → b < B → w'.heap[b]? = w.heap[b]?) : RT w' B A l := by
  rcases h with rfl | ⟨b, hA, hb, hc⟩
  · exact .inl rfl
  · refine .inr ⟨b, hA, hb, fun k t ht => ?_⟩
    have e := hk b ⟨0, hA⟩ hb
    obtain ⟨h1, h2, h3⟩ := hc k t ht
    exact ⟨(World.cell?_of_block (w := w) e).trans h1, (World.cell?_of_block (w := w) e).trans h2, (World.cell?_of_block (w := w) e).trans h3⟩
theorem RT.below {w w' : World} {B B' : Nat} {A : Option Addr} {l : List Un} (h : RT w B A l) (hb : Below B' w w') (hB : B ≤ B') : RT w' B A l := h.keep fun b _ hlt => hb.block b (by omega)
theorem RT.at' {w : World} {B : Nat} {A : Option Addr} {l : List Un} (h : RT w B A l) {k : Nat} (hk : k < l.length) : ∃ b, A = some ⟨b, 0, none⟩ ∧ b < B ∧ w.cell? ⟨b, k * 3, none⟩ = some (.int .i64 (g l k).id) ∧ w.cell? ⟨b, k * 3 + 1, none⟩ = some (.int .i64 (g l k).x) ∧ w.cell? ⟨b, k * 3 + 2, none⟩ = some (.int .i64 (g l k).y) := by
  rcases h with rfl | ⟨b, hA, hb, hc⟩
  · simp at hk
  · exact ⟨b, hA, hb, hc k _ (g_at hk)⟩

/-- A row of units of the call's own. -/
def Own (w : World) (base : Nat) (A : Option Addr) (c : Nat) (l : List Un) : Prop := w.ownsRow base 57 3 (.slice A l.length c) l.length (tvs l)
def blk (A : Option Addr) : Option Nat := A.map (·.block)
theorem blk_own (A : Option Addr) (n c : Nat) : (Value.slice A n c).ownBlock = blk A := by cases A <;> rfl
theorem own_shape {w : World} {base : Nat} {e : TypeId} {s : Nat} {v : Value} {n : Nat} {xs : List Value} (h : w.ownsRow base e s v n xs) : ∃ A c, v = .slice A n c := by
  rcases h.2 with ⟨rfl, rfl⟩ | ⟨g, cap, _, rfl, _⟩
  · exact ⟨none, 0, rfl⟩
  · exact ⟨_, cap, rfl⟩
theorem own_far {w w' : World} {base : Nat} {e : TypeId} {s : Nat} {v : Value} {n : Nat} {xs : List Value} (h : w.ownsRow base e s v n xs) (hk : ∀ k, v.ownBlock = some k → w'.heap[k]? = w.heap[k]?) : w'.ownsRow base e s v n xs := by
  refine ⟨h.1, ?_⟩
  rcases h.2 with h2 | ⟨g, cap, cur, rfl, hg, hh, r⟩
  · exact .inl h2
  · exact .inr ⟨g, cap, cur, rfl, hg, (hk g rfl).trans hh, r⟩
theorem Own.keep {w w' : World} {base : Nat} {A : Option Addr} {c : Nat} {l : List Un} (h : Own w base A c l) (hk : ∀ k, blk A = some k → w'.heap[k]? = w.heap[k]?) : Own w' base A c l :=
  own_far h fun k e => hk k ((blk_own A l.length c).symm.trans e)
theorem Own.lt {w : World} {base : Nat} {A : Option Addr} {c : Nat} {l : List Un} (h : Own w base A c l) : ∀ k, blk A = some k → base ≤ k ∧ k < w.heap.size := by
  intro k hk
  exact World.ownsRow.lt h k ((blk_own A l.length c).trans hk)
theorem Own.more {w : World} {base base' : Nat} {A : Option Addr} {c : Nat} {l : List Un} (h : Own w base A c l) (hb : base' ≤ base) : Own w base' A c l := by
  refine ⟨h.1, ?_⟩
  rcases h.2 with h2 | ⟨g, cap, cur, e, hg, r⟩
  · exact .inl h2
  · exact .inr ⟨g, cap, cur, e, by omega, r⟩
theorem Own.nil (w : World) (base : Nat) : Own w base none 0 [] := World.ownsRow_nil w base 57 3
theorem Own.rt {w : World} {base : Nat} {A : Option Addr} {c : Nat} {l : List Un} (h : Own w base A c l) : RT w w.heap.size A l := by
  rcases h.2 with ⟨hv, h0⟩ | ⟨b, cap, cur, hv, _, hg, _⟩
  · exact .inl (List.eq_nil_of_length_eq_zero h0)
  · injection hv with hA _ _
    subst hA
    refine .inr ⟨b, rfl, (Array.getElem?_eq_some_iff.1 hg).1, fun k t ht => ?_⟩
    have C := World.ownsRow.cells h (g := b) rfl
    obtain ⟨h1, h2, h3⟩ := tvs_at ht
    have C1 := C _ _ h1; have C2 := C _ _ h2; have C3 := C _ _ h3
    rw [add_none, Nat.zero_add] at C1 C2 C3
    exact ⟨C1, C2, C3⟩
theorem Own.cases {w : World} {base : Nat} {A : Option Addr} {c : Nat} {l : List Un} (h : Own w base A c l) : (A = none ∧ l = [] ∧ c = 0) ∨ ∃ b cur, A = some ⟨b, 0, none⟩ ∧ base ≤ b ∧ l.length ≤ c ∧ w.heap[b]? = some (.cells cur 57 (0, 0)) ∧ cur.size = c * 3 ∧ c ≤ maxLen ∧ cur.toList.take (l.length * 3) = tvs l := by
  rcases h.2 with ⟨hv, h0⟩ | ⟨b, cap, cur, hv, hb, hg, hn, hm, hs, hx⟩
  · injection hv with h1 _ h3
    exact .inl ⟨h1, List.eq_nil_of_length_eq_zero h0, h3⟩
  · injection hv with h1 _ h3
    subst h3
    exact .inr ⟨b, cur, h1, hb, hn, hg, hs, hm, hx⟩
theorem Own.mk' {w : World} {base b c : Nat} {l : List Un} {cur : Array Value} (hb : base ≤ b) (hn : l.length ≤ c) (hg : w.heap[b]? = some (.cells cur 57 (0, 0))) (hs : cur.size = c * 3) (hm : c ≤ maxLen) (hx : cur.toList.take (l.length * 3) = tvs l) : Own w base (some ⟨b, 0, none⟩) c l :=
  ⟨tvs_length l, .inr ⟨b, c, cur, rfl, hb, hg, hn, hm, hs, hx⟩⟩
theorem Own.frozen {w : World} {base b : Nat} {c : Nat} {l : List Un} (h : Own w base (some ⟨b, 0, none⟩) c l) (k : Nat) : w.frozen? ⟨b, k, none⟩ = false := by
  rcases h.cases with ⟨h1, _⟩ | ⟨b', cur, h1, _, _, hg, _⟩
  · cases h1
  · injection h1 with h1
    injection h1 with h1
    subst h1
    simp [World.frozen?, hg]
/-- A shorter row over the same cells. -/
theorem Own.take {w : World} {base b : Nat} {c : Nat} {l : List Un} (h : Own w base (some ⟨b, 0, none⟩) c l) (n : Nat) (hn : n ≤ l.length) : Own w base (some ⟨b, 0, none⟩) c (l.take n) := by
  rcases h.cases with ⟨h1, _⟩ | ⟨b', cur, h1, hb, hc, hg, hs, hm, hx⟩
  · cases h1
  · injection h1 with h1
    injection h1 with h1
    subst h1
    refine Own.mk' hb (by simp; omega) hg hs hm ?_
    rw [← tvs_take, ← hx, List.take_take, List.length_take]
    congr 1
    omega
/-- One unit of the row written anew. -/
theorem Own.set {w : World} {base b : Nat} {c : Nat} {l : List Un} (h : Own w base (some ⟨b, 0, none⟩) c l) (k : Nat) (t : Un) :
    Own (((w.setCell ⟨b, k * 3, none⟩ (.int .i64 t.id)).setCell ⟨b, k * 3 + 1, none⟩ (.int .i64 t.x)).setCell ⟨b, k * 3 + 2, none⟩ (.int .i64 t.y)) base (some ⟨b, 0, none⟩) c (l.set k t) := by
  rcases h.cases with ⟨h1, _⟩ | ⟨b', cur, h1, hb, hc, hg, hs, hm, hx⟩
  · cases h1
  · injection h1 with h1
    injection h1 with h1
    subst h1
    refine Own.mk' (cur := ((cur.setIfInBounds (k * 3) (.int .i64 t.id)).setIfInBounds (k * 3 + 1) (.int .i64 t.x)).setIfInBounds (k * 3 + 2) (.int .i64 t.y)) hb (by simpa using hc) ?_ (by simpa using hs) hm ?_
    · simp [World.setCell, Array.getElem?_modify, hg]
    · rw [tvs_set, ← hx, List.length_set]
      simp only [Array.toList_setIfInBounds, List.take_set]

/-! ### what a call may turn -/
/-- From w to w' only the blocks bs, and what is new, have turned. -/
structure Off (w w' : World) (bs : List Nat) : Prop where
  os : w'.os = w.os
  tape : w'.tape = w.tape
  output : w'.output = w.output
  size : w.heap.size ≤ w'.heap.size
  block : ∀ k, k < w.heap.size → k ∉ bs → w'.heap[k]? = w.heap[k]?
theorem Off.refl (w : World) (bs : List Nat) : Off w w bs := ⟨rfl, rfl, rfl, Nat.le_refl _, fun _ _ _ => rfl⟩
theorem Off.trans {a b c : World} {bs bs' : List Nat} (h : Off a b bs) (k : Off b c bs') (hs : ∀ x ∈ bs', x ∈ bs ∨ a.heap.size ≤ x) : Off a c bs :=
  ⟨k.os.trans h.os, k.tape.trans h.tape, k.output.trans h.output, Nat.le_trans h.size k.size, fun i hi hn => (k.block i (by have := h.size; omega) (fun e => by rcases hs i e with h1 | h1; exact hn h1; omega)).trans (h.block i hi hn)⟩
theorem Off.of_below {w w' : World} {bs : List Nat} (h : Below w.heap.size w w') : Off w w' bs := ⟨h.os, h.tape, h.output, h.size, fun k hk _ => h.block k hk⟩
theorem Off.below {w w' : World} {bs : List Nat} {B : Nat} (h : Off w w' bs) (hB : B ≤ w.heap.size) (hb : ∀ k ∈ bs, B ≤ k) : Below B w w' :=
  ⟨h.os, h.tape, h.output, h.size, fun k hk => h.block k (by omega) (fun e => by have := hb k e; omega)⟩
theorem Off.of_grown {w w' : World} {r : Option Nat} {bs : List Nat} (h : w.grownBy w' r) (hr : ∀ k, r = some k → k ∈ bs) : Off w w' bs := ⟨h.os, h.tape, h.output, h.size, fun k hk hn => h.block k hk (fun e => hn (hr k e.symm))⟩
theorem Off.setCell {w w' : World} {bs : List Nat} (h : Off w w' bs) {b o : Nat} (hb : b ∈ bs) (u : Value) : Off w (w'.setCell ⟨b, o, none⟩ u) bs :=
  ⟨h.os, h.tape, h.output, by simpa [World.setCell] using h.size, fun k hk hn => (Below.heap_setCell w' ⟨b, o, none⟩ u k (fun e => hn (by rw [e]; exact hb))).trans (h.block k hk hn)⟩
theorem Off.mono {w w' : World} {bs bs' : List Nat} (h : Off w w' bs) (hs : ∀ x ∈ bs, x ∈ bs') : Off w w' bs' := ⟨h.os, h.tape, h.output, h.size, fun k hk hn => h.block k hk (fun e => hn (hs k e))⟩
theorem Off.drew {w w' : World} {bs : List Nat} (h : Off w w' bs) : Off w w'.drew bs := ⟨h.os, h.tape, h.output, h.size, h.block⟩
theorem Off.alloc {w w' : World} {bs : List Nat} (h : Off w w' bs) (o : Obj) : Off w (w'.alloc o) bs :=
  ⟨h.os, h.tape, h.output, Nat.le_trans h.size (by simp), fun i hi hn => (Below.heap_alloc w' o i (Nat.lt_of_lt_of_le hi h.size)).trans (h.block i hi hn)⟩

/-- A row of units that the law's side has made: with room behind, or cut so that none is left. -/
structure ROw (w : World) (base : Nat) (A : Option Addr) (c : Nat) (S : List Un) : Prop where
  sh : A = none ∨ ∃ b, A = some ⟨b, 0, none⟩
  nil : A = none → S = [] ∧ c = 0
  le : S.length ≤ c
  lt : ∀ k, blk A = some k → base ≤ k ∧ k < w.heap.size
  rt : RT w w.heap.size A S
  own : Own w base A c S ∨ c = S.length
theorem ROw.of_own {w : World} {base : Nat} {A : Option Addr} {c : Nat} {S : List Un} (h : Own w base A c S) : ROw w base A c S := by
  refine ⟨?_, ?_, ?_, h.lt, h.rt, .inl h⟩
  · rcases h.cases with ⟨h1, _⟩ | ⟨b, _, h1, _⟩
    · exact .inl h1
    · exact .inr ⟨b, h1⟩
  · rcases h.cases with ⟨_, h2, h3⟩ | ⟨b, _, h1, _⟩
    · exact fun _ => ⟨h2, h3⟩
    · intro e; rw [h1] at e; cases e
  · rcases h.cases with ⟨_, h2, h3⟩ | ⟨b, _, _, _, h2, _⟩
    · simp [h2]
    · exact h2
theorem ROw.keep {w w' : World} {base : Nat} {A : Option Addr} {c : Nat} {S : List Un} (h : ROw w base A c S) (hs : w.heap.size ≤ w'.heap.size) (hk : ∀ k, blk A = some k → w'.heap[k]? = w.heap[k]?) : ROw w' base A c S := by
  refine ⟨h.sh, h.nil, h.le, fun k e => ⟨(h.lt k e).1, by have := (h.lt k e).2; omega⟩, ?_, ?_⟩
  · have : RT w' w.heap.size A S := h.rt.keep (fun b ⟨o, hA⟩ _ => hk b (by rw [hA]; rfl))
    rcases this with h1 | ⟨b, h1, h2, h3⟩
    · exact .inl h1
    · exact .inr ⟨b, h1, by omega, h3⟩
  · rcases h.own with h1 | h1
    · exact .inl (h1.keep hk)
    · exact .inr h1
theorem RT.take {w : World} {B : Nat} {A : Option Addr} {S : List Un} (h : RT w B A S) (n : Nat) : RT w B A (S.take n) := by
  rcases h with rfl | ⟨b, h1, h2, h3⟩
  · exact .inl (by simp)
  · refine .inr ⟨b, h1, h2, fun k t ht => h3 k t ?_⟩
    rw [List.getElem?_take] at ht
    split at ht
    · exact ht
    · cases ht
/-- Cut to its beginning, with no room behind. -/
theorem ROw.cut {w : World} {base : Nat} {A : Option Addr} {c : Nat} {S : List Un} (h : ROw w base A c S) {n : Nat} (hn : n ≤ S.length) : ROw w base A n (S.take n) := by
  refine ⟨h.sh, fun e => ?_, by simp; omega, h.lt, h.rt.take n, .inr (by simp; omega)⟩
  have := h.nil e
  rw [this.1] at hn ⊢
  simp at hn
  simp [hn]

/-- The cells of a row at an address. -/
theorem tvs_cells {w : World} {b : Nat} {S : List Un} (h : ∀ k t, S[k]? = some t → w.cell? ⟨b, k * 3, none⟩ = some (.int .i64 t.id) ∧ w.cell? ⟨b, k * 3 + 1, none⟩ = some (.int .i64 t.x) ∧ w.cell? ⟨b, k * 3 + 2, none⟩ = some (.int .i64 t.y)) : ∀ j u, (tvs S)[j]? = some u → w.cell? ⟨b, j, none⟩ = some u := by
  intro j u hu
  have hj := (List.getElem?_eq_some_iff.1 hu).1
  rw [tvs_length] at hj
  have hk : j / 3 < S.length := by omega
  obtain ⟨a1, a2, a3⟩ := tvs_at (g_at hk)
  obtain ⟨b1, b2, b3⟩ := h _ _ (g_at hk)
  rcases (by omega : j = j / 3 * 3 ∨ j = j / 3 * 3 + 1 ∨ j = j / 3 * 3 + 2) with e | e | e
  · rw [e] at hu ⊢; rw [a1] at hu; injection hu with hu; rw [← hu]; exact b1
  · rw [e] at hu ⊢; rw [a2] at hu; injection hu with hu; rw [← hu]; exact b2
  · rw [e] at hu ⊢; rw [a3] at hu; injection hu with hu; rw [← hu]; exact b3
theorem grown_some {w w' : World} {r : Option Nat} (h : w.grownBy w' none) : w.grownBy w' r := ⟨h.os, h.tape, h.output, h.size, fun k hk _ => h.block k hk (by simp)⟩
theorem wpList_appR {ops : Array Oper} {rest : List Oper} {o : Oper} {a : Act} {Q : Exit → Act → World → Prop} (w : World) (hgd : o.guard = none) (s x : Operand)
    (ho : o.op = .call { callee := .builtin .append, args := #[s, x], argTypes := #[27, 27] }) (base : Nat) (A : Option Addr) (c : Nat) (S T : List Un) (n : Nat) (hn : S.length = n) (m : Nat) (hmT : T.length = m) (hs : a.eval s = .slice A n c) (hrow : ROw w base A c S)
    (ad : Addr) (cx : Nat) (hx : a.eval x = .slice (some ad) m cx) (hnews : ∀ j u, (tvs T)[j]? = some u → w.cell? (ad.add j) = some u) (hm : 0 < m) (hb : (n + m : Int) ≤ 5000) (hbase : base ≤ w.heap.size)
    (h : ∀ b c' w', Own w' base (some ⟨b, 0, none⟩) c' (S ++ T) → w.grownBy w' (blk A) → (blk A = some b ∨ w.heap.size ≤ b) → wpList Try.prog ops Q rest (a.put o.dst (.slice (some ⟨b, 0, none⟩) (n + m) c')) w') : wpList Try.prog ops Q (o :: rest) a w := by
  subst hn; subst hmT
  obtain ⟨i0, hi0, hz0, hz1, hz2⟩ := info_parts info57
  have el : S.length + T.length = (S ++ T).length := by simp
  rcases hrow.own with h1 | h1
  · refine wpList_append_lies w hgd s x 27 ho base 57 i0 _ 3 24 Try.underlying27 hi0 hz0 hz1 hz2 rfl (by omega) (.slice A S.length c) S.length (tvs S) hs h1 ad T.length cx (tvs T) hx (tvs_length T) hnews (tvs_one T) hm (by unfold maxLen; omega) (by omega) hbase w.heap.size rfl ?_
    intro b c' w' k1 k2 k3 k4
    rw [tvs_app] at k1
    refine h b c' w' (by rw [el] at k1; exact k1) ?_ ?_
    · rw [blk_own] at k2; exact k2
    · rw [blk_own] at k3
      rcases k3 with k3 | k3
      · exact .inl k3
      · exact .inr (by omega)
  · refine wpList_append_grows w hgd s x 27 ho 57 i0 _ 3 24 Try.underlying27 hi0 hz0 hz1 hz2 rfl (by omega) A S.length c (tvs S) hs (fun e => ⟨by rw [(hrow.nil e).1]; rfl, (hrow.nil e).2⟩) (tvs_length S) ?_ ad T.length cx (tvs T) hx (tvs_length T) hnews (tvs_one T) (by omega) (by unfold maxLen; omega) (by omega) ?_
    · intro b hA j u hu
      rcases hrow.rt with e | ⟨b', e1, _, e3⟩
      · rw [e] at hu; simp [tvs] at hu
      · rw [hA] at e1
        injection e1 with e1
        subst e1
        rw [add_none, Nat.zero_add]
        exact tvs_cells e3 j u hu
    · intro v' w' k1 k2
      obtain ⟨b, c', rfl, hb1, hb2⟩ := k1.form (by omega)
      rw [tvs_app, el] at k1
      exact h b c' w' (Own.more k1 hbase) (grown_some k2) (.inr hb1)
theorem step_appR {ops : Array Oper} {o : Oper} {a : Act} {K : Act → World → Prop} {Q : Exit → Act → World → Prop} {E : Prop} (w : World) (hgd : o.guard = none) (s x : Operand)
    (ho : o.op = .call { callee := .builtin .append, args := #[s, x], argTypes := #[27, 27] }) (base : Nat) (A : Option Addr) (c : Nat) (S T : List Un) (n : Nat) (hn : S.length = n) (m : Nat) (hmT : T.length = m) (hs : a.eval s = .slice A n c) (hrow : ROw w base A c S)
    (ad : Addr) (cx : Nat) (hx : a.eval x = .slice (some ad) m cx) (hnews : ∀ j u, (tvs T)[j]? = some u → w.cell? (ad.add j) = some u) (hm : 0 < m) (hb : (n + m : Int) ≤ 5000) (hbase : base ≤ w.heap.size)
    (h : ∀ b c' w', Own w' base (some ⟨b, 0, none⟩) c' (S ++ T) → w.grownBy w' (blk A) → (blk A = some b ∨ w.heap.size ≤ b) → K (a.put o.dst (.slice (some ⟨b, 0, none⟩) (n + m) c')) w') : if Region.wanted o (yielded ops a.tmps) = true then Oper.wp Try.prog o a w K Q else E := by
  subst hn; subst hmT
  obtain ⟨i0, hi0, hz0, hz1, hz2⟩ := info_parts info57
  have el : S.length + T.length = (S ++ T).length := by simp
  rcases hrow.own with h1 | h1
  · refine step_append_lies w hgd s x 27 ho base 57 i0 _ 3 24 Try.underlying27 hi0 hz0 hz1 hz2 rfl (by omega) (.slice A S.length c) S.length (tvs S) hs h1 ad T.length cx (tvs T) hx (tvs_length T) hnews (tvs_one T) hm (by unfold maxLen; omega) (by omega) hbase w.heap.size rfl ?_
    intro b c' w' k1 k2 k3 k4
    rw [tvs_app] at k1
    refine h b c' w' (by rw [el] at k1; exact k1) ?_ ?_
    · rw [blk_own] at k2; exact k2
    · rw [blk_own] at k3
      rcases k3 with k3 | k3
      · exact .inl k3
      · exact .inr (by omega)
  · refine step_append_grows hgd s x 27 ho 57 i0 _ 3 24 Try.underlying27 hi0 hz0 hz1 hz2 rfl (by omega) A S.length c (tvs S) hs (fun e => ⟨by rw [(hrow.nil e).1]; rfl, (hrow.nil e).2⟩) (tvs_length S) ?_ ad T.length cx (tvs T) hx (tvs_length T) hnews (tvs_one T) (by omega) (by unfold maxLen; omega) (by omega) ?_
    · intro b hA j u hu
      rcases hrow.rt with e | ⟨b', e1, _, e3⟩
      · rw [e] at hu; simp [tvs] at hu
      · rw [hA] at e1
        injection e1 with e1
        subst e1
        rw [add_none, Nat.zero_add]
        exact tvs_cells e3 j u hu
    · intro v' w' k1 k2
      obtain ⟨b, c', rfl, hb1, hb2⟩ := k1.form (by omega)
      rw [tvs_app, el] at k1
      exact h b c' w' (Own.more k1 hbase) (grown_some k2) (.inr hb1)
theorem wpList_nothing {ops : Array Oper} {rest : List Oper} {o : Oper} {a : Act} {Q : Exit → Act → World → Prop} (w : World) (hgd : o.guard = none) (s x : Operand)
    (ho : o.op = .call { callee := .builtin .append, args := #[s, x], argTypes := #[27, 27] }) (A : Option Addr) (n c : Nat) (hn : n ≤ c) (hs : a.eval s = .slice A n c) (Ax : Option Addr) (cx : Nat) (hx : a.eval x = .slice Ax 0 cx)
    (h : wpList Try.prog ops Q rest (a.put o.dst (.slice A n c)) w) : wpList Try.prog ops Q (o :: rest) a w := by
  obtain ⟨i0, hi0, hz0, hz1, hz2⟩ := info_parts info57
  refine wpList_plain hgd fun K hK => ?_
  have hsrc : Src Try.prog i0.size 27 (.slice Ax 0 cx) 0 [] w := by
    rcases Ax with _ | ad
    · exact Src.ofNil w Try.underlying27 cx
    · exact Src.ofSlice w Try.underlying27 ad 0 cx [] (by simp) (by simp) (by simp)
  have hrun := run_append_nothing (P := Try.prog) w 27 27 o.type 57 i0 Try.underlying27 hi0 A n c hn (.slice Ax 0 cx) hsrc
  unfold Oper.wp execOp
  simp only [ho, resolve, invoke, builtin, Sem.run_bind, Sem.run_pure, Result.andThen_ok, List.map_toArray, List.map_cons, List.map_nil, hs, hx, hrun]
  exact hK _ _ h

theorem tvs_drop (l : List Un) (n : Nat) : (tvs l).drop (n * 3) = tvs (l.drop n) := by
  induction l generalizing n with
  | nil => simp [tvs]
  | cons x r ih =>
    cases n with
    | zero => simp [tvs]
    | succ n =>
      have e : (n + 1) * 3 = n * 3 + 1 + 1 + 1 := by omega
      rw [e]
      simp only [tvs, List.drop_succ_cons, ih]
theorem drop_cells {w : World} {b : Nat} {S : List Un} (n : Nat) (h : ∀ k t, S[k]? = some t → w.cell? ⟨b, k * 3, none⟩ = some (.int .i64 t.id) ∧ w.cell? ⟨b, k * 3 + 1, none⟩ = some (.int .i64 t.x) ∧ w.cell? ⟨b, k * 3 + 2, none⟩ = some (.int .i64 t.y)) : ∀ j u, (tvs (S.drop n))[j]? = some u → w.cell? ((⟨b, n * 3, none⟩ : Addr).add j) = some u := by
  intro j u hu
  rw [add_none]
  rw [← tvs_drop, List.getElem?_drop] at hu
  exact tvs_cells h _ u hu
theorem step_nothing {ops : Array Oper} {o : Oper} {a : Act} {K : Act → World → Prop} {Q : Exit → Act → World → Prop} {E : Prop} (w : World) (hgd : o.guard = none) (s x : Operand)
    (ho : o.op = .call { callee := .builtin .append, args := #[s, x], argTypes := #[27, 27] }) (A : Option Addr) (n c : Nat) (hn : n ≤ c) (hs : a.eval s = .slice A n c) (Ax : Option Addr) (cx : Nat) (hx : a.eval x = .slice Ax 0 cx)
    (h : K (a.put o.dst (.slice A n c)) w) : if Region.wanted o (yielded ops a.tmps) = true then Oper.wp Try.prog o a w K Q else E := by
  have hw : Region.wanted o (yielded ops a.tmps) = true := by simp [Region.wanted, hgd]
  rw [if_pos hw]
  obtain ⟨i0, hi0, hz0, hz1, hz2⟩ := info_parts info57
  have hsrc : Src Try.prog i0.size 27 (.slice Ax 0 cx) 0 [] w := by
    rcases Ax with _ | ad
    · exact Src.ofNil w Try.underlying27 cx
    · exact Src.ofSlice w Try.underlying27 ad 0 cx [] (by simp) (by simp) (by simp)
  have hrun := run_append_nothing (P := Try.prog) w 27 27 o.type 57 i0 Try.underlying27 hi0 A n c hn (.slice Ax 0 cx) hsrc
  unfold Oper.wp execOp
  simp only [ho, resolve, invoke, builtin, Sem.run_bind, Sem.run_pure, Result.andThen_ok, List.map_toArray, List.map_cons, List.map_nil, hs, hx, hrun]
  exact h
end Go.Proofs.Ytehllnbpianpfaa.Con
