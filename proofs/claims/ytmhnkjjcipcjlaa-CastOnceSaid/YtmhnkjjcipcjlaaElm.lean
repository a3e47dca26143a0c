/-
  Words for memory: a kind of element with its cells; a slice that reads as a list; a row of the call's own; append, as a step of a walk and of a region that draws; rows that may be written over; two rows that grow side by side. For any kind.
-/
import Derived.Test.YtmhnkjjcipcjlaaCon
import Derived.Maps.OwnSet
import Derived.Maps.AppendAt
import Derived.Deep.Draws
import Derived.Deep.AppendLies
import Derived.OwnWalk
import Derived.Laws.Rows
import Derived.Laws.IdiomCopy
namespace Go.Proofs.Ytmhnkjjcipcjlaa.Con
open Go.RowKit Go.Maps

/-- A kind of element: its cells, its types' numbers, its size. -/
structure El (α : Type) where
  enc : α → List Value
  k : Nat
  e : TypeId
  t : TypeId
  z : Value
  bytes : Nat
  klen : ∀ x, (enc x).length = k
  one : ∀ x, ∀ u ∈ enc x, u.oneCell' = true
  kpos : 0 < k
  und : Try.prog.underlying t = some (.slice e)
  info : (Try.prog.info? e).map (fun i => (i.zero, i.size, i.bytes)) = some (some z, k, bytes)
  zsz : z.cells.size = k
  bsm : bytes ≤ 100

theorem add_at (b off k : Nat) : (⟨b, off, none⟩ : Addr).add k = ⟨b, off + k, none⟩ := by unfold Addr.add; split <;> simp_all

section
variable {α : Type} (E : El α)
def flat (l : List α) : List Value := l.flatMap E.enc
theorem flat_nil : flat E [] = [] := rfl
theorem flat_cons (x : α) (r : List α) : flat E (x :: r) = E.enc x ++ flat E r := rfl
theorem flat_app (l m : List α) : flat E (l ++ m) = flat E l ++ flat E m := by simp [flat]
theorem flat_len (l : List α) : (flat E l).length = l.length * E.k := by
  induction l with
  | nil => simp [flat]
  | cons x r ih => rw [flat_cons, List.length_append, ih, E.klen, List.length_cons, Nat.add_mul, Nat.one_mul, Nat.add_comm]
theorem flat_one (l : List α) : ∀ u ∈ flat E l, u.oneCell' = true := by
  intro u hu
  obtain ⟨x, _, hx⟩ := List.mem_flatMap.1 hu
  exact E.one x u hx
theorem flat_get {l : List α} {i : Nat} {x : α} (h : l[i]? = some x) {j : Nat} {v : Value} (hv : (E.enc x)[j]? = some v) : (flat E l)[i * E.k + j]? = some v := by
  induction l generalizing i with
  | nil => simp at h
  | cons y r ih =>
    have hj : j < E.k := by have := (List.getElem?_eq_some_iff.1 hv).1; rw [E.klen] at this; exact this
    rw [flat_cons]
    cases i with
    | zero =>
      simp at h; subst h
      rw [Nat.zero_mul, Nat.zero_add, List.getElem?_append_left (by rw [E.klen]; exact hj)]; exact hv
    | succ i =>
      rw [List.getElem?_cons_succ] at h
      rw [List.getElem?_append_right (by rw [E.klen, Nat.succ_mul]; omega), E.klen]
      rw [show (i + 1) * E.k + j - E.k = i * E.k + j by rw [Nat.succ_mul]; omega]
      exact ih h
theorem flat_at {l : List α} {m : Nat} {v : Value} (h : (flat E l)[m]? = some v) : ∃ i j x, m = i * E.k + j ∧ l[i]? = some x ∧ (E.enc x)[j]? = some v := by
  induction l generalizing m with
  | nil => simp [flat] at h
  | cons y r ih =>
    rw [flat_cons] at h
    by_cases hm : m < E.k
    · rw [List.getElem?_append_left (by rw [E.klen]; exact hm)] at h
      exact ⟨0, m, y, by omega, rfl, h⟩
    · rw [List.getElem?_append_right (by rw [E.klen]; omega), E.klen] at h
      obtain ⟨i, j, x, e, h1, h2⟩ := ih h
      exact ⟨i + 1, j, x, by rw [Nat.succ_mul]; omega, by simpa using h1, h2⟩
theorem flat_take (l : List α) (n : Nat) : (flat E l).take (n * E.k) = flat E (l.take n) := by
  induction l generalizing n with
  | nil => simp [flat]
  | cons x r ih =>
    cases n with
    | zero => simp [flat]
    | succ n =>
      rw [flat_cons, List.take_append, E.klen, List.take_succ_cons, flat_cons]
      rw [show (n + 1) * E.k - E.k = n * E.k by rw [Nat.succ_mul]; omega, ih]
      rw [List.take_of_length_le (by rw [E.klen, Nat.succ_mul]; omega)]

/-- A slice at A reads as the list, from blocks below B. -/
def RW (w : World) (B : Nat) (A : Option Addr) (l : List α) : Prop :=
  l = [] ∨ ∃ b off, A = some ⟨b, off, none⟩ ∧ b < B ∧ ∀ i x, l[i]? = some x → ∀ j v, (E.enc x)[j]? = some v → w.cell? ⟨b, off + i * E.k + j, none⟩ = some v
variable {E}
theorem RW.below {w w' : World} {B B' : Nat} {A : Option Addr} {l : List α} (h : RW E w B A l) (hb : Below B' w w') (hB : B ≤ B') : RW E w' B A l := by
  rcases h with rfl | ⟨b, off, hA, hlt, hc⟩
  · exact .inl rfl
  · exact .inr ⟨b, off, hA, hlt, fun i x hx j v hv => (World.cell?_of_block (w := w) (hb.block b (by omega))).trans (hc i x hx j v hv)⟩
theorem RW.more {w : World} {B B' : Nat} {A : Option Addr} {l : List α} (h : RW E w B A l) (hB : B ≤ B') : RW E w B' A l := by
  rcases h with rfl | ⟨b, off, hA, hlt, hc⟩
  · exact .inl rfl
  · exact .inr ⟨b, off, hA, by omega, hc⟩
theorem RW.nil (w : World) (B : Nat) (A : Option Addr) : RW E w B A [] := .inl rfl
theorem RW.at' {w : World} {B : Nat} {A : Option Addr} {l : List α} (h : RW E w B A l) {i : Nat} {x : α} (hx : l[i]? = some x) : ∃ b off, A = some ⟨b, off, none⟩ ∧ b < B ∧ ∀ j v, (E.enc x)[j]? = some v → w.cell? ⟨b, off + i * E.k + j, none⟩ = some v := by
  rcases h with rfl | ⟨b, off, hA, hb, hc⟩
  · simp at hx
  · exact ⟨b, off, hA, hb, hc i x hx⟩
theorem RW.take {w : World} {B : Nat} {A : Option Addr} {l : List α} (h : RW E w B A l) (n : Nat) : RW E w B A (l.take n) := by
  rcases h with rfl | ⟨b, off, hA, hlt, hc⟩
  · exact .inl (by simp)
  · refine .inr ⟨b, off, hA, hlt, fun i x hx => hc i x ?_⟩
    rw [List.getElem?_take] at hx
    split at hx
    · exact hx
    · cases hx

/-- A row of the call's own. -/
def OW (E : El α) (w : World) (base : Nat) (v : Value) (l : List α) : Prop := w.ownsRow base E.e E.k v l.length (flat E l)
theorem OW.of {w w' : World} {base : Nat} {v : Value} {l : List α} (h : OW E w base v l) (hb : Below w.heap.size w w') : OW E w' base v l := by
  refine ⟨h.1, ?_⟩
  rcases h.2 with h2 | ⟨g, cap, cur, h1, h2, h3, h4⟩
  · exact .inl h2
  · exact .inr ⟨g, cap, cur, h1, h2, (hb.block _ (Array.getElem?_eq_some_iff.1 h3).1).trans h3, h4⟩
theorem OW.shape {w : World} {base : Nat} {v : Value} {l : List α} (h : OW E w base v l) : ∃ A c, v = .slice A l.length c ∧ RW E w w.heap.size A l ∧ ((A = none ∧ l = [] ∧ c = 0) ∨ ∃ b cur, A = some ⟨b, 0, none⟩ ∧ base ≤ b ∧ b < w.heap.size ∧ l.length ≤ c ∧ w.heap[b]? = some (.cells cur E.e (0, 0)) ∧ cur.size = c * E.k ∧ c ≤ maxLen ∧ cur.toList.take (l.length * E.k) = flat E l) := by
  rcases h.2 with ⟨hv, h0⟩ | ⟨b, cap, cur, hv, hb, hg, hn, hm, hs, hx⟩
  · have hl := List.eq_nil_of_length_eq_zero h0
    subst hl
    exact ⟨none, 0, hv, .inl rfl, .inl ⟨rfl, rfl, rfl⟩⟩
  · refine ⟨_, cap, hv, .inr ⟨b, 0, rfl, (Array.getElem?_eq_some_iff.1 hg).1, fun i x hi j u hu => ?_⟩, .inr ⟨b, cur, rfl, hb, (Array.getElem?_eq_some_iff.1 hg).1, hn, hg, hs, hm, hx⟩⟩
    subst hv
    have C := World.ownsRow.cells h (g := b) rfl
    have C1 := C _ _ (flat_get E hi hu)
    rw [add_at, Nat.zero_add] at C1
    rw [Nat.zero_add]
    exact C1
theorem OW.nil (E : El α) (w : World) (base : Nat) : OW E w base (.slice none 0 0) [] := World.ownsRow_nil w base E.e E.k
theorem OW.room (E : El α) (w : World) : OW E (w.alloc (.cells #[] E.e)) w.heap.size (.slice (some ⟨w.heap.size, 0, none⟩) 0 0) [] := by
  have := World.ownsRow_made w (base := w.heap.size) (e := E.e) (size := E.k) #[] 0 (Nat.le_refl _) (Nat.zero_le _) (by simp)
  simpa [OW, flat] using this
theorem OW.mono {w : World} {base base' : Nat} {v : Value} {l : List α} (h : OW E w base v l) (hb : base' ≤ base) : OW E w base' v l := by
  refine ⟨h.1, ?_⟩
  rcases h.2 with h2 | ⟨g, cap, cur, h1, h2, h3⟩
  · exact .inl h2
  · exact .inr ⟨g, cap, cur, h1, by omega, h3⟩

theorem own_shape {w : World} {base : Nat} {e : TypeId} {k : Nat} {v : Value} {n : Nat} {xs : List Value} (h : w.ownsRow base e k v n xs) : ∃ A c, v = .slice A n c := by
  rcases h.2 with ⟨rfl, rfl⟩ | ⟨g, cap, _, rfl, _⟩
  · exact ⟨none, 0, rfl⟩
  · exact ⟨_, cap, rfl⟩
theorem info_parts' {e : TypeId} {z : Value} {k b : Nat} (h : (Try.prog.info? e).map (fun i => (i.zero, i.size, i.bytes)) = some (some z, k, b)) : ∃ i0, Try.prog.info? e = some i0 ∧ i0.zero = some z ∧ i0.size = k ∧ i0.bytes = b := by
  cases h0 : Try.prog.info? e with
  | none => rw [h0] at h; cases h
  | some i => rw [h0] at h; simp at h; exact ⟨i, rfl, h.1, h.2.1, h.2.2⟩
theorem run_app_nil (E : El α) (w : World) (base : Nat) (ty : TypeId) (v : Value) (n c : Nat) (xs : List Value) (hown : w.ownsRow base E.e E.k v n xs) :
    (Builtin.append_ #[E.t, E.t] ty #[v, .slice none 0 c]).run Try.prog w = .ok v w := by
  obtain ⟨i0, hi0, hz0, hz1, hz2⟩ := info_parts' E.info
  rcases hown.2 with ⟨rfl, rfl⟩ | ⟨g, cap, cur, rfl, _, _, hnc, _⟩
  · simp [Builtin.append_, run_underlying E.und, sizeOf, typeInfo, hi0, Builtin.lenOf, Builtin.firstCells]
  · simp [Builtin.append_, run_underlying E.und, sizeOf, typeInfo, hi0, Builtin.lenOf, Builtin.firstCells, hnc, storeCells]

theorem run_app (E : El α) (w : World) (base B : Nat) (ty : TypeId) (v : Value) (l m : List α) (A : Option Addr) (c : Nat) (hown : OW E w base v l) (hr : RW E w B A m) (hlen : l.length + m.length ≤ 1000000) (hbase : base ≤ w.heap.size) :
    ∃ A' c' w', (Builtin.append_ #[E.t, E.t] ty #[v, .slice A m.length c]).run Try.prog w = .ok (.slice A' (l ++ m).length c') w' ∧ OW E w' base (.slice A' (l ++ m).length c') (l ++ m) ∧ w.grownBy w' v.ownBlock ∧
      ((Value.slice A' (l ++ m).length c').ownBlock = v.ownBlock ∨ (Value.slice A' (l ++ m).length c').ownBlock = some w.heap.size) := by
  obtain ⟨i0, hi0, hz0, hz1, hz2⟩ := info_parts' E.info
  rcases A with _ | ad
  · have hm : m = [] := by
      rcases hr with h | ⟨b, off, h, _⟩
      · exact h
      · cases h
    subst hm
    obtain ⟨A', c', rfl⟩ := own_shape hown
    refine ⟨A', c', w, ?_, ?_, ?_, ?_⟩
    · have := run_app_nil E w base ty _ _ c _ hown
      simpa using this
    · simpa using hown
    · exact World.grownBy.refl w _
    · left; simp
  · have hcells : ∀ j u, (flat E m)[j]? = some u → w.cell? (ad.add j) = some u := by
      intro j u hu
      obtain ⟨i, j', x, rfl, hx, hu'⟩ := flat_at E hu
      rcases hr with rfl | ⟨b, off, h, _, hc⟩
      · simp at hx
      · have h := Option.some.inj h
        rw [h]
        have := hc i x hx j' u hu'
        rw [add_at, ← Nat.add_assoc]
        exact this
    have hb1 : (l.length + m.length) * E.bytes ≤ 140737488355328 := Nat.le_trans (Nat.mul_le_mul hlen E.bsm) (by decide)
    obtain ⟨v', w', hrun, h2, h3, _, h5⟩ := run_append_own_at (P := Try.prog) w base E.t ty E.e i0 E.z E.k E.bytes E.und hi0 hz0 hz1 hz2 E.zsz E.kpos v l.length (flat E l) hown ad m.length c (flat E m) (flat_len E m) hcells (flat_one E m) (Nat.le_trans hlen (by decide)) hb1 hbase
    rw [← flat_app, ← List.length_append] at h2
    obtain ⟨A', c', rfl⟩ := own_shape h2
    exact ⟨A', c', w', hrun, h2, h3, h5⟩

theorem wpList_app (E : El α) {w : World} {ops : Array Oper} {rest : List Oper} {o : Oper} {a : Act} {Q : Exit → Act → World → Prop} (hgd : o.guard = none) (t : TypeId) (ht : E.t = t) (s x : Operand)
    (ho : o.op = .call { callee := .builtin .append, args := #[s, x], argTypes := #[t, t] })
    (base B : Nat) (v : Value) (l m : List α) (A : Option Addr) (c n : Nat) (hn : m.length = n) (hs : a.eval s = v) (hx : a.eval x = .slice A n c)
    (hown : OW E w base v l) (hr : RW E w B A m) (hlen : l.length + m.length ≤ 1000000) (hbase : base ≤ w.heap.size)
    (h : ∀ A' c' w' lm, Hid (lm = l ++ m) → Hid (OW E w' base (.slice A' lm.length c') lm) → Hid (w.grownBy w' v.ownBlock) →
      Hid ((Value.slice A' lm.length c').ownBlock = v.ownBlock ∨ (Value.slice A' lm.length c').ownBlock = some w.heap.size) → wpList Try.prog ops Q rest (a.put o.dst (.slice A' lm.length c')) w') :
    wpList Try.prog ops Q (o :: rest) a w := by
  subst ht; subst hn
  refine wpList_plain hgd fun K hK => ?_
  obtain ⟨A', c', w', hrun, h2, h3, h4⟩ := run_app E w base B o.type v l m A c hown hr hlen hbase
  unfold Oper.wp execOp
  simp only [ho, resolve, invoke, builtin, Sem.run_bind, Sem.run_pure, Result.andThen_ok, List.map_toArray, List.map_cons, List.map_nil, hs, hx, hrun]
  exact hK _ _ (h A' c' w' (l ++ m) (Lib.hid rfl) (Lib.hid h2) (Lib.hid h3) (Lib.hid h4))
end

/-- Append as a step of a region that draws. -/
theorem step_app {α : Type} (E : El α) {w : World} {ops : Array Oper} {o : Oper} {a : Act} {K : Act → World → Prop} {Q : Exit → Act → World → Prop} {Ep : Prop} (hgd : o.guard = none) (t : TypeId) (ht : E.t = t) (s x : Operand)
    (ho : o.op = .call { callee := .builtin .append, args := #[s, x], argTypes := #[t, t] })
    (base B : Nat) (v : Value) (l m : List α) (A : Option Addr) (c n : Nat) (hn : m.length = n) (hs : a.eval s = v) (hx : a.eval x = .slice A n c)
    (hown : OW E w base v l) (hr : RW E w B A m) (hlen : l.length + m.length ≤ 1000000) (hbase : base ≤ w.heap.size)
    (h : ∀ A' c' w' lm nl, lm = l ++ m → lm.length = nl → OW E w' base (.slice A' nl c') lm → w.grownBy w' v.ownBlock → ((Value.slice A' nl c').ownBlock = v.ownBlock ∨ (Value.slice A' nl c').ownBlock = some w.heap.size) → K (a.put o.dst (.slice A' nl c')) w') :
    if Region.wanted o (yielded ops a.tmps) = true then Oper.wp Try.prog o a w K Q else Ep := by
  subst ht; subst hn
  have hw : Region.wanted o (yielded ops a.tmps) = true := by simp [Region.wanted, hgd]
  rw [if_pos hw]
  obtain ⟨A', c', w', hrun, h2, h3, h4⟩ := run_app E w base B o.type v l m A c hown hr hlen hbase
  unfold Oper.wp execOp
  simp only [ho, resolve, invoke, builtin, Sem.run_bind, Sem.run_pure, Result.andThen_ok, List.map_toArray, List.map_cons, List.map_nil, hs, hx, hrun]
  exact h A' c' w' (l ++ m) _ rfl rfl h2 h3 h4

theorem size_setCells (b : Nat) : ∀ (vs : List Value) (o : Nat) (w : World), (w.setCells b o vs).heap.size = w.heap.size
  | [], _, _ => rfl
  | v :: r, o, w => by rw [World.setCells, size_setCells b r]; simp
theorem below_setCells (b : Nat) {B : Nat} {a : World} (hB : B ≤ b) : ∀ (vs : List Value) (o : Nat) (w : World), Below B a w → Below B a (w.setCells b o vs)
  | [], _, _, h => h
  | v :: r, o, _, h => below_setCells b hB r (o + 1) _ (h.setCell (p := ⟨b, o, none⟩) hB v)

section
variable {α : Type}
def PW (E : El α) (w : World) (N : Nat) (A : Option Addr) (l : List α) : Prop :=
  l = [] ∨ ∃ b off, A = some ⟨b, off, none⟩ ∧ N ≤ b ∧ b < w.heap.size ∧ (∀ i x, l[i]? = some x → ∀ j v, (E.enc x)[j]? = some v → w.cell? ⟨b, off + i * E.k + j, none⟩ = some v) ∧ ∀ o, w.frozen? ⟨b, o, none⟩ = false
variable {E : El α}
theorem PW.nil (E : El α) (w : World) (N : Nat) (A : Option Addr) : PW E w N A [] := .inl rfl
theorem PW.rw' {w : World} {N : Nat} {A : Option Addr} {l : List α} (h : PW E w N A l) : RW E w w.heap.size A l := by
  rcases h with rfl | ⟨b, off, hA, _, hlt, hc, _⟩
  · exact .inl rfl
  · exact .inr ⟨b, off, hA, hlt, hc⟩
theorem PW.of {w w' : World} {N : Nat} {A : Option Addr} {l : List α} (h : PW E w N A l) (hb : Below w.heap.size w w') : PW E w' N A l := by
  rcases h with rfl | ⟨b, off, hA, hN, hlt, hc, hf⟩
  · exact .inl rfl
  · exact .inr ⟨b, off, hA, hN, Nat.lt_of_lt_of_le hlt hb.size, fun i x hx j v hv => (hb.cell (p := ⟨b, off + i * E.k + j, none⟩) hlt).trans (hc i x hx j v hv), fun o => (hb.frozen (p := ⟨b, o, none⟩) hlt).trans (hf o)⟩
theorem PW.mono {w : World} {N N' : Nat} {A : Option Addr} {l : List α} (h : PW E w N A l) (hN : N' ≤ N) : PW E w N' A l := by
  rcases h with rfl | ⟨b, off, hA, h1, h2⟩
  · exact .inl rfl
  · exact .inr ⟨b, off, hA, Nat.le_trans hN h1, h2⟩
theorem OW.pw {w : World} {base n c : Nat} {A : Option Addr} {l : List α} (h : OW E w base (.slice A n c) l) : PW E w base A l := by
  obtain ⟨A', c', hv, hr, h2⟩ := h.shape
  injection hv with e1 e2 e3
  subst e1
  rcases h2 with ⟨rfl, rfl, _⟩ | ⟨b, cur, hA, hb, hlt, _, hg, hs, hm, hx⟩
  · exact .inl rfl
  · rcases hr with rfl | ⟨b', off', hA', hlt', hc⟩
    · exact .inl rfl
    · refine .inr ⟨b', off', hA', ?_, hlt', hc, fun o => ?_⟩
      · rw [hA] at hA'; injection hA' with e; injection e with e1; omega
      · rw [hA] at hA'; injection hA' with e; injection e with e1
        subst e1
        simp [World.frozen?, hg]
theorem PW.setC {w : World} {N : Nat} {A : Option Addr} {l : List α} (h : PW E w N A l) {b : Nat} (hb : b < N) (o : Nat) (vs : List Value) : PW E (w.setCells b o vs) N A l := by
  rcases h with rfl | ⟨b', off, hA, hN, hlt, hc, hf⟩
  · exact .inl rfl
  · refine .inr ⟨b', off, hA, hN, by rw [size_setCells]; exact hlt, fun i x hx j v hv => ?_, fun o => by rw [World.frozen?_setCells]; exact hf o⟩
    rw [World.cell?_setCells_out b vs o w _ (fun e => by simp at e; omega)]
    exact hc i x hx j v hv
theorem PW.set1 {w : World} {N : Nat} {A : Option Addr} {l : List α} (h : PW E w N A l) {a : Addr} (ha : a.block < N) (u : Value) : PW E (w.setCell a u) N A l := by
  rcases h with rfl | ⟨b', off, hA, hN, hlt, hc, hf⟩
  · exact .inl rfl
  · refine .inr ⟨b', off, hA, hN, by simpa using hlt, fun i x hx j v hv => ?_, fun o => by rw [World.frozen?_setCell]; exact hf o⟩
    rw [World.cell?_setCell_other _ _ _ _ (fun e => by subst e; simp at ha; omega)]
    exact hc i x hx j v hv
theorem PW.put {w : World} {N : Nat} {A : Option Addr} {l : List α} (h : PW E w N A l) {b off k : Nat} (hA : A = some ⟨b, off, none⟩) (hk : k < l.length) (x : α) : PW E (w.setCells b (off + k * E.k) (E.enc x)) N A (l.set k x) := by
  rcases h with rfl | ⟨b', off', hA', hN, hlt, hc, hf⟩
  · simp at hk
  · rw [hA] at hA'; injection hA' with e; injection e with e1 e2
    subst e1; subst e2
    refine .inr ⟨b, off, hA, hN, by rw [size_setCells]; exact hlt, fun i y hy j v hv => ?_, fun o => by rw [World.frozen?_setCells]; exact hf o⟩
    have hj : j < E.k := by have := (List.getElem?_eq_some_iff.1 hv).1; rw [E.klen] at this; exact this
    rw [List.getElem?_set] at hy
    by_cases hik : k = i
    · subst hik
      rw [if_pos rfl, if_pos hk] at hy
      injection hy with hy
      subst hy
      have old : ∀ j', j' < (E.enc x).length → (w.cell? ⟨b, off + k * E.k + j', none⟩).isSome = true := by
        intro j' hj'
        rw [E.klen] at hj'
        have h1 := hc k _ (List.getElem?_eq_getElem hk) j' _ (List.getElem?_eq_getElem (by rw [E.klen]; exact hj'))
        rw [h1]; rfl
      have h2 := World.cell?_setCells_in b (E.enc x) (off + k * E.k) w old j (by rw [E.klen]; exact hj)
      rw [h2]
      obtain ⟨_, h3⟩ := List.getElem?_eq_some_iff.1 hv
      rw [h3]
    · rw [if_neg hik] at hy
      rw [World.cell?_setCells_out b (E.enc x) (off + k * E.k) w _ (fun _ _ => by
        rw [E.klen]
        show off + i * E.k + j < off + k * E.k ∨ off + k * E.k + E.k ≤ off + i * E.k + j
        rcases Nat.lt_or_gt_of_ne (fun e => hik e.symm) with hlt | hlt
        · left; have := Nat.mul_le_mul_right E.k hlt; rw [Nat.succ_mul] at this; omega
        · right; have := Nat.mul_le_mul_right E.k hlt; rw [Nat.succ_mul] at this; omega)]
      exact hc i y hy j v hv
/-- Row k of a row that may be written over, in a world in which it lies as it did. -/
theorem PW.at' {w : World} {N : Nat} {A : Option Addr} {l : List α} (h : PW E w N A l) {k : Nat} {x : α} (hx : l[k]? = some x) :
    ∃ b off, A = some ⟨b, off, none⟩ ∧ N ≤ b ∧ b < w.heap.size ∧ (∀ j v, (E.enc x)[j]? = some v → w.cell? ⟨b, off + k * E.k + j, none⟩ = some v) ∧ ∀ o, w.frozen? ⟨b, o, none⟩ = false := by
  rcases h with rfl | ⟨b, off, hA, hN, hlt, hc, hf⟩
  · simp at hx
  · exact ⟨b, off, hA, hN, hlt, hc k x hx, hf⟩
end


section
variable {α β : Type}
/-- A new block that holds the list's cells. -/
theorem rw_many (E : El α) (w : World) (l : List α) (cs : Array Value) (h : cs.toList = flat E l) : RW E (w.alloc (.cells cs E.e)) (w.heap.size + 1) (some ⟨w.heap.size, 0, none⟩) l := by
  refine .inr ⟨w.heap.size, 0, rfl, by omega, fun i x hx j v hv => ?_⟩
  have hc := cell_of_row (w.alloc (.cells cs E.e)) w.heap.size (0 + i * E.k + j) cs E.e (0, 0) (heap_alloc_new w _)
  rw [hc, Nat.zero_add, ← Array.getElem?_toList, h]
  exact flat_get E hx hv
theorem rw_one (E : El α) (w : World) (x : α) (cs : Array Value) (h : cs.toList = E.enc x) : RW E (w.alloc (.cells cs E.e)) (w.heap.size + 1) (some ⟨w.heap.size, 0, none⟩) [x] := rw_many E w [x] cs (by rw [h]; simp [flat])
theorem rw_at (E : El α) (w : World) (l : List α) (cs : Array Value) (e : TypeId) (P : Nat) (he : E.e = e) (h : cs.toList = flat E l) (hP : w.heap.size = P) : RW E (w.alloc (.cells cs e)) (P + 1) (some ⟨P, 0, none⟩) l := by
  subst he; subst hP; exact rw_many E w l cs h
theorem below_app {w w1 w' : World} {k : Option Nat} (hb : Below w.heap.size w w1) (hg : w1.grownBy w' k) (hk : ∀ j, k = some j → w.heap.size ≤ j) : Below w.heap.size w w' := hb.grown hg hb.size hk
theorem below_more {B : Nat} {a b c : World} (h : Below B a b) (k : Below b.heap.size b c) (hB : B ≤ b.heap.size) : Below B a c := h.trans (k.mono hB)
theorem OW.lt {E : El α} {w : World} {base : Nat} {v : Value} {l : List α} (h : OW E w base v l) {k : Nat} (hk : v.ownBlock = some k) : base ≤ k ∧ k < w.heap.size := World.ownsRow.lt h k hk
theorem OW.keep {E : El α} {w w' : World} {base : Nat} {v : Value} {l : List α} (h : OW E w base v l) (hk : ∀ k, v.ownBlock = some k → w'.heap[k]? = w.heap[k]?) : OW E w' base v l := by
  refine ⟨h.1, ?_⟩
  rcases h.2 with h2 | ⟨g, cap, cur, h1, h2, h3, h4⟩
  · exact .inl h2
  · exact .inr ⟨g, cap, cur, h1, h2, (hk g (by rw [h1]; rfl)).trans h3, h4⟩

/-- Two rows of the call's own, each in a block of its own. -/
structure Two (E : El α) (F : El β) (w0 V : World) (base : Nat) (v u : Value) (l : List α) (m : List β) : Prop where
  a : OW E V base v l
  b : OW F V base u m
  ne : ∀ k, v.ownBlock = some k → u.ownBlock ≠ some k
  below : Below base w0 V
  top : base ≤ V.heap.size
variable {E : El α} {F : El β} {w0 V V' : World} {base : Nat} {v u v' u' : Value} {l l' : List α} {m m' : List β}
theorem Two.of (h : Two E F w0 V base v u l m) (hb : Below V.heap.size V V') : Two E F w0 V' base v u l m :=
  ⟨h.a.of hb, h.b.of hb, h.ne, h.below.trans (hb.mono h.top), Nat.le_trans h.top hb.size⟩
theorem Two.start (E : El α) (F : El β) {w0 V : World} {base : Nat} (hb : Below base w0 V) (ht : base ≤ V.heap.size) : Two E F w0 V base (.slice none 0 0) (.slice none 0 0) [] [] :=
  ⟨OW.nil E V base, OW.nil F V base, fun _ hk => (by cases hk), hb, ht⟩
theorem Two.put1 (h : Two E F w0 V base v u l m) (hg : V.grownBy V' v.ownBlock) (ho : OW E V' base v' l') (hw : v'.ownBlock = v.ownBlock ∨ v'.ownBlock = some V.heap.size) : Two E F w0 V' base v' u l' m := by
  refine ⟨ho, h.b.keep (fun k hk => hg.block k (h.b.lt hk).2 (fun e => h.ne k e.symm hk)), fun k hk hu => ?_, h.below.grown hg h.top (fun j hj => (h.a.lt hj).1), Nat.le_trans h.top hg.size⟩
  rcases hw with e | e
  · exact h.ne k (by rw [← e]; exact hk) hu
  · rw [e] at hk; injection hk with hk; have := (h.b.lt hu).2; omega
theorem Two.put2 (h : Two E F w0 V base v u l m) (hg : V.grownBy V' u.ownBlock) (ho : OW F V' base u' m') (hw : u'.ownBlock = u.ownBlock ∨ u'.ownBlock = some V.heap.size) : Two E F w0 V' base v u' l m' := by
  refine ⟨h.a.keep (fun k hk => hg.block k (h.a.lt hk).2 (fun e => h.ne k hk e.symm)), ho, fun k hk hu => ?_, h.below.grown hg h.top (fun j hj => (h.b.lt hj).1), Nat.le_trans h.top hg.size⟩
  rcases hw with e | e
  · exact h.ne k hk (by rw [← e]; exact hu)
  · rw [e] at hu; injection hu with hu; have := (h.a.lt hk).2; omega
end

/-- A row of m cells that may be stored into (they are not read again), in blocks from N on. -/
def MW (w : World) (N : Nat) (A : Option Addr) (m : Nat) : Prop := m = 0 ∨ ∃ b, A = some ⟨b, 0, none⟩ ∧ N ≤ b ∧ b < w.heap.size ∧ (∀ i, i < m → ∃ v, w.cell? ⟨b, i, none⟩ = some v) ∧ ∀ o, w.frozen? ⟨b, o, none⟩ = false
theorem OW.mw {α : Type} {E : El α} {w : World} {base n c : Nat} {A : Option Addr} {l : List α} (h : OW E w base (.slice A n c) l) : MW w base A (l.length * E.k) := by
  obtain ⟨A', c', hv, _, h2⟩ := h.shape
  injection hv with e1 e2 e3
  subst e1
  rcases h2 with ⟨_, rfl, _⟩ | ⟨b, cur, rfl, hb, hlt, hlc, hg, hs, _, _⟩
  · exact .inl (by simp)
  · refine .inr ⟨b, rfl, hb, hlt, fun i hi => ?_, fun o => by simp [World.frozen?, hg]⟩
    have hi2 : i < cur.size := by rw [hs]; exact Nat.lt_of_lt_of_le hi (Nat.mul_le_mul_right _ (by omega))
    have hc := cell_of_row w b i cur E.e (0, 0) hg
    rw [Array.getElem?_eq_getElem hi2] at hc
    exact ⟨_, hc⟩
theorem MW.of {w w' : World} {N : Nat} {A : Option Addr} {m : Nat} (h : MW w N A m) (hb : Below w.heap.size w w') : MW w' N A m := by
  rcases h with h | ⟨b, hA, hN, hlt, hc, hf⟩
  · exact .inl h
  · refine .inr ⟨b, hA, hN, Nat.lt_of_lt_of_le hlt hb.size, fun i hi => ?_, fun o => (hb.frozen (p := ⟨b, o, none⟩) hlt).trans (hf o)⟩
    obtain ⟨v, hv⟩ := hc i hi
    exact ⟨v, (hb.cell (p := ⟨b, i, none⟩) hlt).trans hv⟩
theorem MW.set {w : World} {N : Nat} {A : Option Addr} {m : Nat} (h : MW w N A m) (b' o : Nat) (u : Value) : MW (w.setCell ⟨b', o, none⟩ u) N A m := by
  rcases h with h | ⟨b, hA, hN, hlt, hc, hf⟩
  · exact .inl h
  · refine .inr ⟨b, hA, hN, by simpa using hlt, fun i hi => ?_, fun o => by rw [World.frozen?_setCell]; exact hf o⟩
    obtain ⟨v, hv⟩ := hc i hi
    by_cases e : (⟨b', o, none⟩ : Addr) = ⟨b, i, none⟩
    · rw [e]; exact ⟨u, World.cell?_setCell_same _ _ _ hv⟩
    · exact ⟨v, by rw [World.cell?_setCell_other _ _ _ _ e]; exact hv⟩
theorem MW.at' {w : World} {N : Nat} {A : Option Addr} {m : Nat} (h : MW w N A m) {i : Nat} (hi : i < m) : ∃ b, A = some ⟨b, 0, none⟩ ∧ N ≤ b ∧ b < w.heap.size ∧ (∃ v, w.cell? ⟨b, i, none⟩ = some v) ∧ w.frozen? ⟨b, i, none⟩ = false := by
  rcases h with h | ⟨b, hA, hN, hlt, hc, hf⟩
  · omega
  · exact ⟨b, hA, hN, hlt, hc i hi, hf i⟩
end Go.Proofs.Ytmhnkjjcipcjlaa.Con
