/-
  Words for memory: a row of timers of the call's own; a map from numbers to places; a queue of both behind one block; what a call may turn.
-/
import Derived.Test.YtibiobcjnnoeeaaTmr
import Derived.Test.YtibiobcjnnoeeaaRows
import Derived.WalkKit
import Derived.Lib.Hide
import Derived.Deep.Draws
import Derived.Maps.AppendAt
import Derived.Maps.OwnSet
import Derived.Deep.AppendLies
import Derived.RegionTactic
import Derived.OwnWalk
namespace Go.Proofs.Ytibiobcjnnoeeaa.Con
open Go.RowKit Tmr Go.Maps

/-- The cells of a timer, and of a row of them. -/
def tv (t : Tm) : List Value := [.int .i64 t.due, .int .i64 t.tag, .int .i64 t.id]
def tvs : List Tm → List Value
  | [] => []
  | t :: r => .int .i64 t.due :: .int .i64 t.tag :: .int .i64 t.id :: tvs r
theorem tvs_length (l : List Tm) : (tvs l).length = l.length * 3 := by
  induction l with
  | nil => rfl
  | cons t r ih => simp only [tvs, List.length_cons, ih]; omega
theorem tvs_app (l m : List Tm) : tvs l ++ tvs m = tvs (l ++ m) := by
  induction l with
  | nil => rfl
  | cons t r ih => simp only [tvs, List.cons_append, ih]
theorem tvs_one (l : List Tm) : ∀ u ∈ tvs l, u.oneCell' = true := by
  induction l with
  | nil => intro u hu; cases hu
  | cons t r ih =>
    intro u hu
    simp only [tvs, List.mem_cons] at hu
    rcases hu with rfl | rfl | rfl | hu
    · rfl
    · rfl
    · rfl
    · exact ih u hu
theorem tvs_at {l : List Tm} {k : Nat} {t : Tm} (h : l[k]? = some t) : (tvs l)[k * 3]? = some (.int .i64 t.due) ∧ (tvs l)[k * 3 + 1]? = some (.int .i64 t.tag) ∧ (tvs l)[k * 3 + 2]? = some (.int .i64 t.id) := by
  induction l generalizing k with
  | nil => simp at h
  | cons x r ih =>
    cases k with
    | zero => simp at h; subst h; simp [tvs]
    | succ k =>
      rw [List.getElem?_cons_succ] at h
      obtain ⟨h1, h2, h3⟩ := ih h
      have e : (k + 1) * 3 = k * 3 + 1 + 1 + 1 := by omega
      rw [e]
      simp only [tvs, List.getElem?_cons_succ, Nat.add_right_comm _ 1 1]
      refine ⟨h1, ?_, ?_⟩
      · exact h2
      · exact h3
theorem tvs_take (l : List Tm) (n : Nat) : (tvs l).take (n * 3) = tvs (l.take n) := by
  induction l generalizing n with
  | nil => simp [tvs]
  | cons x r ih =>
    cases n with
    | zero => simp [tvs]
    | succ n =>
      have e : (n + 1) * 3 = n * 3 + 1 + 1 + 1 := by omega
      rw [e]
      simp only [tvs, List.take_succ_cons, ih]
theorem tvs_set (l : List Tm) (k : Nat) (t : Tm) : tvs (l.set k t) = (((tvs l).set (k * 3) (.int .i64 t.due)).set (k * 3 + 1) (.int .i64 t.tag)).set (k * 3 + 2) (.int .i64 t.id) := by
  induction l generalizing k with
  | nil => simp [tvs]
  | cons x r ih =>
    cases k with
    | zero => simp [tvs]
    | succ k =>
      have e : (k + 1) * 3 = k * 3 + 1 + 1 + 1 := by omega
      have e1 : (k + 1) * 3 + 1 = (k * 3 + 1) + 1 + 1 + 1 := by omega
      have e2 : (k + 1) * 3 + 2 = (k * 3 + 2) + 1 + 1 + 1 := by omega
      rw [e1, e2, e]
      simp only [tvs, List.set_cons_succ, ih]

theorem add_none (b off k : Nat) : (⟨b, off, none⟩ : Addr).add k = ⟨b, off + k, none⟩ := by unfold Addr.add; split <;> simp_all

/-- A slice at A reads as the timers l. -/
def RT (w : World) (B : Nat) (A : Option Addr) (l : List Tm) : Prop :=
  l = [] ∨ ∃ b, A = some ⟨b, 0, none⟩ ∧ b < B ∧ ∀ k t, l[k]? = some t → w.cell? ⟨b, k * 3, none⟩ = some (.int .i64 t.due) ∧ w.cell? ⟨b, k * 3 + 1, none⟩ = some (.int .i64 t.tag) ∧ w.cell? ⟨b, k * 3 + 2, none⟩ = some (.int .i64 t.id)
theorem RT.keep {w w' : World} {B : Nat} {A : Option Addr} {l : List Tm} (h : RT w B A l) (hk : ∀ b, (∃ o, A = some ⟨b, o, none⟩) → b < B → w'.heap[b]? = w.heap[b]?) : RT w' B A l := by
  rcases h with rfl | ⟨b, hA, hb, hc⟩
  · exact .inl rfl
  · refine .inr ⟨b, hA, hb, fun k t ht => ?_⟩
    have e := hk b ⟨0, hA⟩ hb
    obtain ⟨h1, h2, h3⟩ := hc k t ht
    exact ⟨(World.cell?_of_block (w := w) e).trans h1, (World.cell?_of_block (w := w) e).trans h2, (World.cell?_of_block (w := w) e).trans h3⟩
theorem RT.below {w w' : World} {B B' : Nat} {A : Option Addr} {l : List Tm} (h : RT w B A l) (hb : Below B' w w') (hB : B ≤ B') : RT w' B A l := h.keep fun b _ hlt => hb.block b (by omega)
theorem RT.at' {w : World} {B : Nat} {A : Option Addr} {l : List Tm} (h : RT w B A l) {k : Nat} (hk : k < l.length) : ∃ b, A = some ⟨b, 0, none⟩ ∧ b < B ∧ w.cell? ⟨b, k * 3, none⟩ = some (.int .i64 (g l k).due) ∧ w.cell? ⟨b, k * 3 + 1, none⟩ = some (.int .i64 (g l k).tag) ∧ w.cell? ⟨b, k * 3 + 2, none⟩ = some (.int .i64 (g l k).id) := by
  rcases h with rfl | ⟨b, hA, hb, hc⟩
  · simp at hk
  · exact ⟨b, hA, hb, hc k _ (g_at hk)⟩

/-- A row of timers of the call's own. -/
def Own (w : World) (base : Nat) (A : Option Addr) (c : Nat) (l : List Tm) : Prop := w.ownsRow base 33 3 (.slice A l.length c) l.length (tvs l)
def blk (A : Option Addr) : Option Nat := A.map (·.block)
theorem blk_own (A : Option Addr) (n c : Nat) : (Value.slice A n c).ownBlock = blk A := by cases A <;> rfl
theorem own_shape {w : World} {base : Nat} {e : TypeId} {s : Nat} {v : Value} {n : Nat} {xs : List Value} (h : w.ownsRow base e s v n xs) : ∃ A c, v = .slice A n c := by
  rcases h.2 with ⟨rfl, rfl⟩ | ⟨g, cap, _, rfl, _⟩
  · exact ⟨none, 0, rfl⟩
  · exact ⟨_, cap, rfl⟩
theorem own_far {w w' : World} {base : Nat} {e : TypeId} {s : Nat} {v : Value} {n : Nat} {xs : List Value} (h : w.ownsRow base e s v n xs) (hk : ∀ k, v.ownBlock = some k → w'.heap[k]? = w.heap[k]?) : w'.ownsRow base e s v n xs := by
  refine ⟨h.1, ?_⟩
  rcases h.2 with h2 | ⟨g, cap, cur, rfl, hg, hh, r⟩
  · exact .inl h2
  · exact .inr ⟨g, cap, cur, rfl, hg, (hk g rfl).trans hh, r⟩
theorem Own.keep {w w' : World} {base : Nat} {A : Option Addr} {c : Nat} {l : List Tm} (h : Own w base A c l) (hk : ∀ k, blk A = some k → w'.heap[k]? = w.heap[k]?) : Own w' base A c l :=
  own_far h fun k e => hk k ((blk_own A l.length c).symm.trans e)
theorem Own.lt {w : World} {base : Nat} {A : Option Addr} {c : Nat} {l : List Tm} (h : Own w base A c l) : ∀ k, blk A = some k → base ≤ k ∧ k < w.heap.size := by
  intro k hk
  exact World.ownsRow.lt h k ((blk_own A l.length c).trans hk)
theorem Own.more {w : World} {base base' : Nat} {A : Option Addr} {c : Nat} {l : List Tm} (h : Own w base A c l) (hb : base' ≤ base) : Own w base' A c l := by
  refine ⟨h.1, ?_⟩
  rcases h.2 with h2 | ⟨g, cap, cur, e, hg, r⟩
  · exact .inl h2
  · exact .inr ⟨g, cap, cur, e, by omega, r⟩
theorem Own.nil (w : World) (base : Nat) : Own w base none 0 [] := World.ownsRow_nil w base 33 3
theorem Own.rt {w : World} {base : Nat} {A : Option Addr} {c : Nat} {l : List Tm} (h : Own w base A c l) : RT w w.heap.size A l := by
  rcases h.2 with ⟨hv, h0⟩ | ⟨b, cap, cur, hv, _, hg, _⟩
  · exact .inl (List.eq_nil_of_length_eq_zero h0)
  · injection hv with hA _ _
    subst hA
    refine .inr ⟨b, rfl, (Array.getElem?_eq_some_iff.1 hg).1, fun k t ht => ?_⟩
    have C := World.ownsRow.cells h (g := b) rfl
    obtain ⟨h1, h2, h3⟩ := tvs_at ht
    have C1 := C _ _ h1; have C2 := C _ _ h2; have C3 := C _ _ h3
    rw [add_none, Nat.zero_add] at C1 C2 C3
    exact ⟨C1, C2, C3⟩
theorem Own.cases {w : World} {base : Nat} {A : Option Addr} {c : Nat} {l : List Tm} (h : Own w base A c l) : (A = none ∧ l = [] ∧ c = 0) ∨ ∃ b cur, A = some ⟨b, 0, none⟩ ∧ base ≤ b ∧ l.length ≤ c ∧ w.heap[b]? = some (.cells cur 33 (0, 0)) ∧ cur.size = c * 3 ∧ c ≤ maxLen ∧ cur.toList.take (l.length * 3) = tvs l := by
  rcases h.2 with ⟨hv, h0⟩ | ⟨b, cap, cur, hv, hb, hg, hn, hm, hs, hx⟩
  · injection hv with h1 _ h3
    exact .inl ⟨h1, List.eq_nil_of_length_eq_zero h0, h3⟩
  · injection hv with h1 _ h3
    subst h3
    exact .inr ⟨b, cur, h1, hb, hn, hg, hs, hm, hx⟩
theorem Own.mk' {w : World} {base b c : Nat} {l : List Tm} {cur : Array Value} (hb : base ≤ b) (hn : l.length ≤ c) (hg : w.heap[b]? = some (.cells cur 33 (0, 0))) (hs : cur.size = c * 3) (hm : c ≤ maxLen) (hx : cur.toList.take (l.length * 3) = tvs l) : Own w base (some ⟨b, 0, none⟩) c l :=
  ⟨tvs_length l, .inr ⟨b, c, cur, rfl, hb, hg, hn, hm, hs, hx⟩⟩
theorem Own.frozen {w : World} {base b : Nat} {c : Nat} {l : List Tm} (h : Own w base (some ⟨b, 0, none⟩) c l) (k : Nat) : w.frozen? ⟨b, k, none⟩ = false := by
  rcases h.cases with ⟨h1, _⟩ | ⟨b', cur, h1, _, _, hg, _⟩
  · cases h1
  · injection h1 with h1
    injection h1 with h1
    subst h1
    simp [World.frozen?, hg]
/-- A shorter row over the same cells. -/
theorem Own.take {w : World} {base b : Nat} {c : Nat} {l : List Tm} (h : Own w base (some ⟨b, 0, none⟩) c l) (n : Nat) (hn : n ≤ l.length) : Own w base (some ⟨b, 0, none⟩) c (l.take n) := by
  rcases h.cases with ⟨h1, _⟩ | ⟨b', cur, h1, hb, hc, hg, hs, hm, hx⟩
  · cases h1
  · injection h1 with h1
    injection h1 with h1
    subst h1
    refine Own.mk' hb (by simp; omega) hg hs hm ?_
    rw [← tvs_take, ← hx, List.take_take, List.length_take]
    congr 1
    omega
/-- One timer of the row written anew. -/
theorem Own.set {w : World} {base b : Nat} {c : Nat} {l : List Tm} (h : Own w base (some ⟨b, 0, none⟩) c l) (k : Nat) (t : Tm) :
    Own (((w.setCell ⟨b, k * 3, none⟩ (.int .i64 t.due)).setCell ⟨b, k * 3 + 1, none⟩ (.int .i64 t.tag)).setCell ⟨b, k * 3 + 2, none⟩ (.int .i64 t.id)) base (some ⟨b, 0, none⟩) c (l.set k t) := by
  rcases h.cases with ⟨h1, _⟩ | ⟨b', cur, h1, hb, hc, hg, hs, hm, hx⟩
  · cases h1
  · injection h1 with h1
    injection h1 with h1
    subst h1
    refine Own.mk' (cur := ((cur.setIfInBounds (k * 3) (.int .i64 t.due)).setIfInBounds (k * 3 + 1) (.int .i64 t.tag)).setIfInBounds (k * 3 + 2) (.int .i64 t.id)) hb (by simpa using hc) ?_ (by simpa using hs) hm ?_
    · simp [World.setCell, Array.getElem?_modify, hg]
    · rw [tvs_set, ← hx, List.length_set]
      simp only [Array.toList_setIfInBounds, List.take_set]

/-! ### the map of places -/
theorem law : Keyed Try.prog 3 := int_keyed Try.underlying3
theorem zeroE (w : World) : (zeroValue 3).run Try.prog w = .ok (.int .i64 0) w := by kernel_rfl
def key (k : Int) : Lit := .int .i64 k
theorem keyLit (k : Int) : WideAt.IsKeyLit (key k) := trivial
theorem key_ne {a b : Int} (h : a ≠ b) : key a ≠ key b := by unfold key; intro e; injection e with _ e; exact h e
/-- A map tells the places of the timers of a row by their numbers, and nothing else. -/
structure Places (D : DataW Unit) (l : List Tm) : Prop where
  tidy : Tidy D
  is : ∀ k : Int, has D (key k) = hasId l k
  at' : ∀ (i : Nat) (t : Tm), l[i]? = some t → D.atKey (key t.id) (.lit (.int .i64 0)) = .lit (.int .i64 i)
  size : Maps.size D = l.length
theorem Places.nil : Places (.map []) [] := ⟨tidy_empty, fun k => rfl, fun i t h => by simp at h, rfl⟩
theorem hasId_perm {l m : List Tm} (h : l.Perm m) (k : Int) : hasId l k = hasId m k := by
  rw [Bool.eq_iff_iff, hasId_iff, hasId_iff]
  exact ⟨fun ⟨t, h1, h2⟩ => ⟨t, h.mem_iff.1 h1, h2⟩, fun ⟨t, h1, h2⟩ => ⟨t, h.mem_iff.2 h1, h2⟩⟩
theorem hasId_at {l : List Tm} {i : Nat} (h : i < l.length) : hasId l (g l i).id = true := hasId_iff.2 ⟨_, g_mem h, rfl⟩
theorem Places.swap {D : DataW Unit} {l : List Tm} (h : Places D l) (hne : l.Pairwise (fun a b => a.id ≠ b.id)) {i j : Nat} (hi : i < l.length) (hj : j < l.length) (hij : i ≠ j) : Places ((D.put (key (g l j).id) (.lit (.int .i64 i))).put (key (g l i).id) (.lit (.int .i64 j))) (sw l i j) := by
  have hD1 := h.tidy.put (keyLit (g l j).id) (.lit (.int .i64 i))
  have k1 : has D (key (g l j).id) = true := by rw [h.is]; exact hasId_at hj
  have hneq : (g l i).id ≠ (g l j).id := fun e => hij (ne_at hne hi hj e)
  have k2 : has (D.put (key (g l j).id) (.lit (.int .i64 i))) (key (g l i).id) = true := by rw [has_put_other (key_ne hneq), h.is]; exact hasId_at hi
  refine ⟨hD1.put (keyLit _) _, fun k => ?_, fun m t ht => ?_, ?_⟩
  · rw [hasId_perm (sw_perm hi hj)]
    by_cases e1 : k = (g l i).id
    · subst e1
      rw [has_put_same hD1.isMap (keyLit _), hasId_at hi]
    · rw [has_put_other (key_ne e1)]
      by_cases e2 : k = (g l j).id
      · subst e2
        rw [has_put_same h.tidy.isMap (keyLit _), hasId_at hj]
      · rw [has_put_other (key_ne e2), h.is]
  · rw [sw_get hi hj] at ht
    by_cases m1 : m = j
    · rw [if_pos m1] at ht
      injection ht with ht
      subst ht; subst m1
      exact atKey_put_same hD1.isMap (keyLit _) _ _
    · rw [if_neg m1] at ht
      by_cases m2 : m = i
      · rw [if_pos m2] at ht
        injection ht with ht
        subst ht; subst m2
        rw [atKey_put_other (key_ne (fun e => hneq e.symm))]
        exact atKey_put_same h.tidy.isMap (keyLit _) _ _
      · rw [if_neg m2] at ht
        have hm : m < l.length := (List.getElem?_eq_some_iff.1 ht).1
        have et := g_of ht
        subst et
        rw [atKey_put_other (key_ne (fun e => m2 (ne_at hne hm hi e))), atKey_put_other (key_ne (fun e => m1 (ne_at hne hm hj e)))]
        exact h.at' m _ ht
  · rw [size_put hD1, if_pos k2, size_put h.tidy, if_pos k1, h.size, sw_length]
theorem Places.push {D : DataW Unit} {l : List Tm} (h : Places D l) (t : Tm) (hn : hasId l t.id = false) : Places (D.put (key t.id) (.lit (.int .i64 l.length))) (l ++ [t]) := by
  refine ⟨h.tidy.put (keyLit _) _, fun k => ?_, fun i u hu => ?_, ?_⟩
  · have e : hasId (l ++ [t]) k = (hasId l k || (t.id == k)) := by simp [hasId]
    rw [e]
    by_cases e1 : k = t.id
    · subst e1
      rw [has_put_same h.tidy.isMap (keyLit _)]
      simp
    · rw [has_put_other (key_ne e1), h.is, beq_eq_false_iff_ne.2 (fun e => e1 e.symm), Bool.or_false]
  · by_cases hi : i < l.length
    · rw [List.getElem?_append_left hi] at hu
      have : u.id ≠ t.id := by
        intro e
        have : hasId l t.id = true := hasId_iff.2 ⟨u, List.mem_of_getElem? hu, e⟩
        rw [hn] at this
        cases this
      rw [atKey_put_other (key_ne this)]
      exact h.at' i u hu
    · have hlt := (List.getElem?_eq_some_iff.1 hu).1
      rw [List.length_append, List.length_singleton] at hlt
      obtain rfl : i = l.length := by omega
      rw [List.getElem?_append_right (by omega), Nat.sub_self] at hu
      simp at hu
      subst hu
      exact atKey_put_same h.tidy.isMap (keyLit _) _ _
  · rw [size_put h.tidy, h.is, hn, h.size, List.length_append]
    rfl
theorem Places.drop {D : DataW Unit} {l : List Tm} {t : Tm} (h : Places D (l ++ [t])) (hn : hasId l t.id = false) : Places (D.del (key t.id)) l := by
  have e : ∀ k, hasId (l ++ [t]) k = (hasId l k || (t.id == k)) := fun k => by simp [hasId]
  have ht : has D (key t.id) = true := by rw [h.is, e]; simp
  refine ⟨h.tidy.del _, fun k => ?_, fun i u hu => ?_, ?_⟩
  · by_cases e1 : k = t.id
    · subst e1
      rw [has_del_same, hn]
    · rw [has_del_other (key_ne e1), h.is, e, beq_eq_false_iff_ne.2 (fun e => e1 e.symm), Bool.or_false]
  · have hi : i < l.length := (List.getElem?_eq_some_iff.1 hu).1
    have : u.id ≠ t.id := by
      intro e
      have : hasId l t.id = true := hasId_iff.2 ⟨u, List.mem_of_getElem? hu, e⟩
      rw [hn] at this
      cases this
    rw [atKey_del_other (key_ne this)]
    exact h.at' i u (by rw [List.getElem?_append_left hi]; exact hu)
  · have := size_del (k := key t.id) h.tidy
    rw [ht, h.size, List.length_append, List.length_singleton] at this
    simpa using this

/-- A map of the call's own. -/
def OMap (w : World) (mb : Nat) (l : List Tm) : Prop := ∃ D : DataW Unit, w.ownsMap Try.prog 3 (plainElem Try.prog 3) mb (Maps.size D) D ∧ Places D l
theorem tight {w : World} {mb n : Nat} {D : DataW Unit} (h : w.ownsMap Try.prog 3 (plainElem Try.prog 3) mb n D) : w.ownsMap Try.prog 3 (plainElem Try.prog 3) mb (Maps.size D) D := by
  obtain ⟨es, clock, hb, F, hs, hD⟩ := h
  refine ⟨es, clock, hb, F, ?_, hD⟩
  rw [hD]
  show es.size ≤ List.length _
  rw [length_sorted]
  simp
theorem OMap.obj {w : World} {mb : Nat} {l : List Tm} (h : OMap w mb l) : ∃ es clock, w.heap[mb]? = some (.map es clock) := by
  obtain ⟨D, ⟨es, clock, hb, _⟩, _⟩ := h
  exact ⟨es, clock, hb⟩
theorem OMap.keep {w w' : World} {mb : Nat} {l : List Tm} (h : OMap w mb l) (hk : w'.heap[mb]? = w.heap[mb]?) : OMap w' mb l := by
  obtain ⟨D, ⟨es, clock, hb, r⟩, hp⟩ := h
  exact ⟨D, ⟨es, clock, hk.trans hb, r⟩, hp⟩

/-! ### what a call may turn -/
/-- From w to w' only the blocks bs, and what is new, have turned. -/
structure Off (w w' : World) (bs : List Nat) : Prop where
  os : w'.os = w.os
  tape : w'.tape = w.tape
  output : w'.output = w.output
  size : w.heap.size ≤ w'.heap.size
  block : ∀ k, k < w.heap.size → k ∉ bs → w'.heap[k]? = w.heap[k]?
theorem Off.refl (w : World) (bs : List Nat) : Off w w bs := ⟨rfl, rfl, rfl, Nat.le_refl _, fun _ _ _ => rfl⟩
theorem Off.trans {a b c : World} {bs bs' : List Nat} (h : Off a b bs) (k : Off b c bs') (hs : ∀ x ∈ bs', x ∈ bs ∨ a.heap.size ≤ x) : Off a c bs :=
  ⟨k.os.trans h.os, k.tape.trans h.tape, k.output.trans h.output, Nat.le_trans h.size k.size, fun i hi hn => (k.block i (by have := h.size; omega) (fun e => by rcases hs i e with h1 | h1; exact hn h1; omega)).trans (h.block i hi hn)⟩
theorem Off.of_below {w w' : World} {bs : List Nat} (h : Below w.heap.size w w') : Off w w' bs := ⟨h.os, h.tape, h.output, h.size, fun k hk _ => h.block k hk⟩
theorem Off.below {w w' : World} {bs : List Nat} {B : Nat} (h : Off w w' bs) (hB : B ≤ w.heap.size) (hb : ∀ k ∈ bs, B ≤ k) : Below B w w' :=
  ⟨h.os, h.tape, h.output, h.size, fun k hk => h.block k (by omega) (fun e => by have := hb k e; omega)⟩
theorem Off.of_grown {w w' : World} {r : Option Nat} {bs : List Nat} (h : w.grownBy w' r) (hr : ∀ k, r = some k → k ∈ bs) : Off w w' bs := ⟨h.os, h.tape, h.output, h.size, fun k hk hn => h.block k hk (fun e => hn (hr k e.symm))⟩
theorem Off.setCell {w w' : World} {bs : List Nat} (h : Off w w' bs) {b o : Nat} (hb : b ∈ bs) (u : Value) : Off w (w'.setCell ⟨b, o, none⟩ u) bs :=
  ⟨h.os, h.tape, h.output, by simpa [World.setCell] using h.size, fun k hk hn => (Below.heap_setCell w' ⟨b, o, none⟩ u k (fun e => hn (by rw [e]; exact hb))).trans (h.block k hk hn)⟩
theorem Off.mono {w w' : World} {bs bs' : List Nat} (h : Off w w' bs) (hs : ∀ x ∈ bs, x ∈ bs') : Off w w' bs' := ⟨h.os, h.tape, h.output, h.size, fun k hk hn => h.block k hk (fun e => hn (hs k e))⟩
theorem Off.drew {w w' : World} {bs : List Nat} (h : Off w w' bs) : Off w w'.drew bs := ⟨h.os, h.tape, h.output, h.size, h.block⟩
theorem Off.alloc {w w' : World} {bs : List Nat} (h : Off w w' bs) (o : Obj) : Off w (w'.alloc o) bs :=
  ⟨h.os, h.tape, h.output, Nat.le_trans h.size (by simp), fun i hi hn => (Below.heap_alloc w' o i (Nat.lt_of_lt_of_le hi h.size)).trans (h.block i hi hn)⟩

/-! ### a queue -/
/-- The struct at block q: its slice reads as l, its map tells the places of lm, its last number. -/
structure Que (w : World) (base q mb : Nat) (A : Option Addr) (c : Nat) (l lm : List Tm) (last : Int) : Prop where
  st : w.heap[q]? = some (.cells #[.slice A l.length c, .map (some mb), .int .i64 last] 53 (0, 0))
  own : Own w base A c l
  map : OMap w mb lm
  bq : base ≤ q
  bm : base ≤ mb
section
variable {w w' : World} {base q mb : Nat} {A : Option Addr} {c : Nat} {l lm : List Tm} {last : Int}
theorem Que.cell0 (h : Que w base q mb A c l lm last) : w.cell? ⟨q, 0, none⟩ = some (.slice A l.length c) := (cell_of_row w q 0 _ 53 (0, 0) h.st).trans rfl
theorem Que.cell1 (h : Que w base q mb A c l lm last) : w.cell? ⟨q, 1, none⟩ = some (.map (some mb)) := (cell_of_row w q 1 _ 53 (0, 0) h.st).trans rfl
theorem Que.cell2 (h : Que w base q mb A c l lm last) : w.cell? ⟨q, 2, none⟩ = some (.int .i64 last) := (cell_of_row w q 2 _ 53 (0, 0) h.st).trans rfl
theorem Que.fz (h : Que w base q mb A c l lm last) (k : Nat) : w.frozen? ⟨q, k, none⟩ = false := by simp [World.frozen?, h.st]
theorem Que.lt (h : Que w base q mb A c l lm last) : q < w.heap.size := (Array.getElem?_eq_some_iff.1 h.st).1
theorem Que.mlt (h : Que w base q mb A c l lm last) : mb < w.heap.size := by
  obtain ⟨es, clock, hb⟩ := h.map.obj
  exact (Array.getElem?_eq_some_iff.1 hb).1
theorem Que.qm (h : Que w base q mb A c l lm last) : q ≠ mb := by
  rintro rfl
  obtain ⟨es, clock, hb⟩ := h.map.obj
  have := h.st
  rw [hb] at this
  cases this
theorem Que.rq (h : Que w base q mb A c l lm last) {b : Nat} (hb : blk A = some b) : b ≠ q := by
  rintro rfl
  rcases h.own.cases with ⟨h1, _⟩ | ⟨b', cur, h1, _, _, hg, _⟩
  · subst h1; cases hb
  · subst h1
    injection hb with hb
    subst hb
    have := h.st
    rw [hg] at this
    injection this with this
    injection this with _ this
    cases this
theorem Que.rm (h : Que w base q mb A c l lm last) {b : Nat} (hb : blk A = some b) : b ≠ mb := by
  rintro rfl
  rcases h.own.cases with ⟨h1, _⟩ | ⟨b', cur, h1, _, _, hg, _⟩
  · subst h1; cases hb
  · subst h1
    injection hb with hb
    subst hb
    obtain ⟨es, clock, hb⟩ := h.map.obj
    rw [hg] at hb
    cases hb
theorem Que.keep (h : Que w base q mb A c l lm last) (hq : w'.heap[q]? = w.heap[q]?) (hm : w'.heap[mb]? = w.heap[mb]?) (hr : ∀ k, blk A = some k → w'.heap[k]? = w.heap[k]?) : Que w' base q mb A c l lm last :=
  ⟨hq.trans h.st, h.own.keep hr, h.map.keep hm, h.bq, h.bm⟩
theorem Que.step (h : Que w base q mb A c l lm last) (hb : Below w.heap.size w w') : Que w' base q mb A c l lm last :=
  h.keep (hb.block q h.lt) (hb.block mb h.mlt) (fun k hk => hb.block k (h.own.lt k hk).2)
end
/-- The blocks of a queue. -/
def bls (q mb : Nat) (A : Option Addr) : List Nat := q :: mb :: (blk A).toList
theorem Que.off {w w' : World} {base q mb : Nat} {A : Option Addr} {c : Nat} {l lm : List Tm} {last : Int} {bs : List Nat} (h : Que w base q mb A c l lm last) (ho : Off w w' bs) (hq : ∀ k ∈ bls q mb A, k ∉ bs) : Que w' base q mb A c l lm last :=
  h.keep (ho.block q h.lt (hq q (by simp [bls]))) (ho.block mb h.mlt (hq mb (by simp [bls]))) (fun k hk => ho.block k (h.own.lt k hk).2 (hq k (by simp [bls, hk])))
theorem Que.lo {w : World} {base q mb : Nat} {A : Option Addr} {c : Nat} {l lm : List Tm} {last : Int} (h : Que w base q mb A c l lm last) : ∀ k ∈ bls q mb A, base ≤ k ∧ k < w.heap.size := by
  intro k hk
  simp only [bls, List.mem_cons, Option.mem_toList] at hk
  rcases hk with rfl | rfl | hk
  · exact ⟨h.bq, h.lt⟩
  · exact ⟨h.bm, h.mlt⟩
  · exact h.own.lt k hk
end Go.Proofs.Ytibiobcjnnoeeaa.Con
