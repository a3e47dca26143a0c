/-
  Words for memory: how rows of each kind of part lie in cells; a slice that reads as a list; a row of the call's own; one law for append.
-/
import Derived.Test.YtpjenkgimkndaaaGreatGrd
import Derived.Test.YtpjenkgimkndaaaGreatDat
import Derived.Maps.OwnSet
import Derived.Maps.AppendAt
import Derived.Deep.Draws
import Derived.Deep.AppendLies
import Derived.OwnWalk
namespace Go.Proofs.YtpjenkgimkndaaaGreat.Con
open Go.RowKit Go.Maps

/-- A kind of element: its cells, its types' numbers, its size. -/
structure El (α : Type) where
  enc : α → List Value
  k : Nat
  e : TypeId
  t : TypeId
  z : Value
  bytes : Nat
  klen : ∀ x, (enc x).length = k
  one : ∀ x, ∀ u ∈ enc x, u.oneCell' = true
  kpos : 0 < k
  und : Tryz.prog.underlying t = some (.slice e)
  info : (Tryz.prog.info? e).map (fun i => (i.zero, i.size, i.bytes)) = some (some z, k, bytes)
  zsz : z.cells.size = k
  bsm : bytes ≤ 100

def encEf (x : Ef) : List Value := [.int .i64 x.kind, .int .i64 x.amount, .int .i64 x.aura]
def encLn (x : Ln) : List Value := [.int .i64 x.phase, .int .i64 x.whn, .int .i64 x.arg, .int .i64 x.dos, .int .i64 x.value]
def encPz (x : Pz) : List Value := [.int .i64 x.item, .int .i64 x.weight]
def encAu (x : Au) : List Value := [.int .i64 x.id, .int .i64 x.kind, .int .i64 x.ticks, .int .i64 x.every, .int .i64 x.stacks, .int .i64 x.amount, .bool x.harm]
def encAb (x : Ab) : List Value := [.int .i64 x.id, .int .i64 x.cast, .int .i64 x.cool, .int .i64 x.charges, .int .i64 x.range, .int .i64 x.cost, .bool x.sight, .slice x.ea x.eff.length x.ec]
def encFo (x : Fo) : List Value := [.int .i64 x.id, .int .i64 x.health, .int .i64 x.hit, .int .i64 x.every, .int .i64 x.reach, .slice x.sa x.script.length x.sc, .slice x.ha x.hoard.length x.hc, .int .i64 x.drops]
def encBo (x : Bool) : List Value := [.bool x]
def ef : El Ef := { enc := encEf, k := 3, e := 71, t := 50, z := .agg #[.int .i64 0, .int .i64 0, .int .i64 0], bytes := 24, klen := fun _ => rfl, one := by intro x u hu; simp [encEf] at hu; rcases hu with rfl | rfl | rfl <;> rfl, kpos := by decide, und := Tryz.underlying50, info := by kernel_rfl, zsz := rfl, bsm := by decide }
def ln : El Ln := { enc := encLn, k := 5, e := 73, t := 53, z := .agg #[.int .i64 0, .int .i64 0, .int .i64 0, .int .i64 0, .int .i64 0], bytes := 40, klen := fun _ => rfl, one := by intro x u hu; simp [encLn] at hu; rcases hu with rfl | rfl | rfl | rfl | rfl <;> rfl, kpos := by decide, und := Tryz.underlying53, info := by kernel_rfl, zsz := rfl, bsm := by decide }
def pz : El Pz := { enc := encPz, k := 2, e := 75, t := 54, z := .agg #[.int .i64 0, .int .i64 0], bytes := 16, klen := fun _ => rfl, one := by intro x u hu; simp [encPz] at hu; rcases hu with rfl | rfl <;> rfl, kpos := by decide, und := Tryz.underlying54, info := by kernel_rfl, zsz := rfl, bsm := by decide }
def au : El Au := { enc := encAu, k := 7, e := 63, t := 23, z := .agg #[.int .i64 0, .int .i64 0, .int .i64 0, .int .i64 0, .int .i64 0, .int .i64 0, .bool false], bytes := 56, klen := fun _ => rfl, one := by intro x u hu; simp [encAu] at hu; rcases hu with rfl | rfl | rfl | rfl | rfl | rfl | rfl <;> rfl, kpos := by decide, und := Tryz.underlying23, info := by kernel_rfl, zsz := rfl, bsm := by decide }
def ab : El Ab := { enc := encAb, k := 8, e := 52, t := 22, z := .agg #[.int .i64 0, .int .i64 0, .int .i64 0, .int .i64 0, .int .i64 0, .int .i64 0, .bool false, .slice none 0 0], bytes := 80, klen := fun _ => rfl, one := by intro x u hu; simp [encAb] at hu; rcases hu with rfl | rfl | rfl | rfl | rfl | rfl | rfl | rfl <;> rfl, kpos := by decide, und := Tryz.underlying22, info := by kernel_rfl, zsz := rfl, bsm := by decide }
def fo : El Fo := { enc := encFo, k := 8, e := 56, t := 24, z := .agg #[.int .i64 0, .int .i64 0, .int .i64 0, .int .i64 0, .int .i64 0, .slice none 0 0, .slice none 0 0, .int .i64 0], bytes := 96, klen := fun _ => rfl, one := by intro x u hu; simp [encFo] at hu; rcases hu with rfl | rfl | rfl | rfl | rfl | rfl | rfl | rfl <;> rfl, kpos := by decide, und := Tryz.underlying24, info := by kernel_rfl, zsz := rfl, bsm := by decide }
def bo : El Bool := { enc := encBo, k := 1, e := 4, t := 25, z := .bool false, bytes := 1, klen := fun _ => rfl, one := by intro x u hu; simp [encBo] at hu; rcases hu with rfl; rfl, kpos := by decide, und := Tryz.underlying25, info := by kernel_rfl, zsz := rfl, bsm := by decide }

theorem add_at (b off k : Nat) : (⟨b, off, none⟩ : Addr).add k = ⟨b, off + k, none⟩ := by unfold Addr.add; split <;> simp_all

section
variable {α : Type} (E : El α)
def flat (l : List α) : List Value := l.flatMap E.enc
theorem flat_nil : flat E [] = [] := rfl
theorem flat_cons (x : α) (r : List α) : flat E (x :: r) = E.enc x ++ flat E r := rfl
theorem flat_app (l m : List α) : flat E (l ++ m) = flat E l ++ flat E m := by simp [flat]
theorem flat_len (l : List α) : (flat E l).length = l.length * E.k := by
  induction l with
  | nil => simp [flat]
  | cons x r ih => rw [flat_cons, List.length_append, ih, E.klen, List.length_cons, Nat.add_mul, Nat.one_mul, Nat.add_comm]
theorem flat_one (l : List α) : ∀ u ∈ flat E l, u.oneCell' = true := by
  intro u hu
  obtain ⟨x, _, hx⟩ := List.mem_flatMap.1 hu
  exact E.one x u hx
theorem flat_get {l : List α} {i : Nat} {x : α} (h : l[i]? = some x) {j : Nat} {v : Value} (hv : (E.enc x)[j]? = some v) : (flat E l)[i * E.k + j]? = some v := by
  induction l generalizing i with
  | nil => simp at h
  | cons y r ih =>
    have hj : j < E.k := by have := (List.getElem?_eq_some_iff.1 hv).1; rw [E.klen] at this; exact this
    rw [flat_cons]
    cases i with
    | zero =>
      simp at h; subst h
      rw [Nat.zero_mul, Nat.zero_add, List.getElem?_append_left (by rw [E.klen]; exact hj)]; exact hv
    | succ i =>
      rw [List.getElem?_cons_succ] at h
      rw [List.getElem?_append_right (by rw [E.klen, Nat.succ_mul]; omega), E.klen]
      rw [show (i + 1) * E.k + j - E.k = i * E.k + j by rw [Nat.succ_mul]; omega]
      exact ih h
theorem flat_at {l : List α} {m : Nat} {v : Value} (h : (flat E l)[m]? = some v) : ∃ i j x, m = i * E.k + j ∧ l[i]? = some x ∧ (E.enc x)[j]? = some v := by
  induction l generalizing m with
  | nil => simp [flat] at h
  | cons y r ih =>
    rw [flat_cons] at h
    by_cases hm : m < E.k
    · rw [List.getElem?_append_left (by rw [E.klen]; exact hm)] at h
      exact ⟨0, m, y, by omega, rfl, h⟩
    · rw [List.getElem?_append_right (by rw [E.klen]; omega), E.klen] at h
      obtain ⟨i, j, x, e, h1, h2⟩ := ih h
      exact ⟨i + 1, j, x, by rw [Nat.succ_mul]; omega, by simpa using h1, h2⟩
theorem flat_take (l : List α) (n : Nat) : (flat E l).take (n * E.k) = flat E (l.take n) := by
  induction l generalizing n with
  | nil => simp [flat]
  | cons x r ih =>
    cases n with
    | zero => simp [flat]
    | succ n =>
      rw [flat_cons, List.take_append, E.klen, List.take_succ_cons, flat_cons]
      rw [show (n + 1) * E.k - E.k = n * E.k by rw [Nat.succ_mul]; omega, ih]
      rw [List.take_of_length_le (by rw [E.klen, Nat.succ_mul]; omega)]

/-- A slice at A reads as the list, from blocks below B. -/
def RW (w : World) (B : Nat) (A : Option Addr) (l : List α) : Prop :=
  l = [] ∨ ∃ b off, A = some ⟨b, off, none⟩ ∧ b < B ∧ ∀ i x, l[i]? = some x → ∀ j v, (E.enc x)[j]? = some v → w.cell? ⟨b, off + i * E.k + j, none⟩ = some v
variable {E}
theorem RW.below {w w' : World} {B B' : Nat} {A : Option Addr} {l : List α} (h : RW E w B A l) (hb : Below B' w w') (hB : B ≤ B') : RW E w' B A l := by
  rcases h with rfl | ⟨b, off, hA, hlt, hc⟩
  · exact .inl rfl
  · exact .inr ⟨b, off, hA, hlt, fun i x hx j v hv => (World.cell?_of_block (w := w) (hb.block b (by omega))).trans (hc i x hx j v hv)⟩
theorem RW.more {w : World} {B B' : Nat} {A : Option Addr} {l : List α} (h : RW E w B A l) (hB : B ≤ B') : RW E w B' A l := by
  rcases h with rfl | ⟨b, off, hA, hlt, hc⟩
  · exact .inl rfl
  · exact .inr ⟨b, off, hA, by omega, hc⟩
theorem RW.nil (w : World) (B : Nat) (A : Option Addr) : RW E w B A [] := .inl rfl
theorem RW.at' {w : World} {B : Nat} {A : Option Addr} {l : List α} (h : RW E w B A l) {i : Nat} {x : α} (hx : l[i]? = some x) : ∃ b off, A = some ⟨b, off, none⟩ ∧ b < B ∧ ∀ j v, (E.enc x)[j]? = some v → w.cell? ⟨b, off + i * E.k + j, none⟩ = some v := by
  rcases h with rfl | ⟨b, off, hA, hb, hc⟩
  · simp at hx
  · exact ⟨b, off, hA, hb, hc i x hx⟩
theorem RW.take {w : World} {B : Nat} {A : Option Addr} {l : List α} (h : RW E w B A l) (n : Nat) : RW E w B A (l.take n) := by
  rcases h with rfl | ⟨b, off, hA, hlt, hc⟩
  · exact .inl (by simp)
  · refine .inr ⟨b, off, hA, hlt, fun i x hx => hc i x ?_⟩
    rw [List.getElem?_take] at hx
    split at hx
    · exact hx
    · cases hx

/-- A row of the call's own. -/
def OW (E : El α) (w : World) (base : Nat) (v : Value) (l : List α) : Prop := w.ownsRow base E.e E.k v l.length (flat E l)
theorem OW.of {w w' : World} {base : Nat} {v : Value} {l : List α} (h : OW E w base v l) (hb : Below w.heap.size w w') : OW E w' base v l := by
  refine ⟨h.1, ?_⟩
  rcases h.2 with h2 | ⟨g, cap, cur, h1, h2, h3, h4⟩
  · exact .inl h2
  · exact .inr ⟨g, cap, cur, h1, h2, (hb.block _ (Array.getElem?_eq_some_iff.1 h3).1).trans h3, h4⟩
theorem OW.shape {w : World} {base : Nat} {v : Value} {l : List α} (h : OW E w base v l) : ∃ A c, v = .slice A l.length c ∧ RW E w w.heap.size A l ∧ ((A = none ∧ l = [] ∧ c = 0) ∨ ∃ b cur, A = some ⟨b, 0, none⟩ ∧ base ≤ b ∧ b < w.heap.size ∧ l.length ≤ c ∧ w.heap[b]? = some (.cells cur E.e (0, 0)) ∧ cur.size = c * E.k ∧ c ≤ maxLen ∧ cur.toList.take (l.length * E.k) = flat E l) := by
  rcases h.2 with ⟨hv, h0⟩ | ⟨b, cap, cur, hv, hb, hg, hn, hm, hs, hx⟩
  · have hl := List.eq_nil_of_length_eq_zero h0
    subst hl
    exact ⟨none, 0, hv, .inl rfl, .inl ⟨rfl, rfl, rfl⟩⟩
  · refine ⟨_, cap, hv, .inr ⟨b, 0, rfl, (Array.getElem?_eq_some_iff.1 hg).1, fun i x hi j u hu => ?_⟩, .inr ⟨b, cur, rfl, hb, (Array.getElem?_eq_some_iff.1 hg).1, hn, hg, hs, hm, hx⟩⟩
    subst hv
    have C := World.ownsRow.cells h (g := b) rfl
    have C1 := C _ _ (flat_get E hi hu)
    rw [add_at, Nat.zero_add] at C1
    rw [Nat.zero_add]
    exact C1
theorem OW.nil (E : El α) (w : World) (base : Nat) : OW E w base (.slice none 0 0) [] := World.ownsRow_nil w base E.e E.k
theorem OW.room (E : El α) (w : World) : OW E (w.alloc (.cells #[] E.e)) w.heap.size (.slice (some ⟨w.heap.size, 0, none⟩) 0 0) [] := by
  have := World.ownsRow_made w (base := w.heap.size) (e := E.e) (size := E.k) #[] 0 (Nat.le_refl _) (Nat.zero_le _) (by simp)
  simpa [OW, flat] using this
theorem OW.mono {w : World} {base base' : Nat} {v : Value} {l : List α} (h : OW E w base v l) (hb : base' ≤ base) : OW E w base' v l := by
  refine ⟨h.1, ?_⟩
  rcases h.2 with h2 | ⟨g, cap, cur, h1, h2, h3⟩
  · exact .inl h2
  · exact .inr ⟨g, cap, cur, h1, by omega, h3⟩

theorem own_shape {w : World} {base : Nat} {e : TypeId} {k : Nat} {v : Value} {n : Nat} {xs : List Value} (h : w.ownsRow base e k v n xs) : ∃ A c, v = .slice A n c := by
  rcases h.2 with ⟨rfl, rfl⟩ | ⟨g, cap, _, rfl, _⟩
  · exact ⟨none, 0, rfl⟩
  · exact ⟨_, cap, rfl⟩
theorem info_parts' {e : TypeId} {z : Value} {k b : Nat} (h : (Tryz.prog.info? e).map (fun i => (i.zero, i.size, i.bytes)) = some (some z, k, b)) : ∃ i0, Tryz.prog.info? e = some i0 ∧ i0.zero = some z ∧ i0.size = k ∧ i0.bytes = b := by
  cases h0 : Tryz.prog.info? e with
  | none => rw [h0] at h; cases h
  | some i => rw [h0] at h; simp at h; exact ⟨i, rfl, h.1, h.2.1, h.2.2⟩
theorem run_app_nil (E : El α) (w : World) (base : Nat) (ty : TypeId) (v : Value) (n c : Nat) (xs : List Value) (hown : w.ownsRow base E.e E.k v n xs) :
    (Builtin.append_ #[E.t, E.t] ty #[v, .slice none 0 c]).run Tryz.prog w = .ok v w := by
  obtain ⟨i0, hi0, hz0, hz1, hz2⟩ := info_parts' E.info
  rcases hown.2 with ⟨rfl, rfl⟩ | ⟨g, cap, cur, rfl, _, _, hnc, _⟩
  · simp [Builtin.append_, run_underlying E.und, sizeOf, typeInfo, hi0, Builtin.lenOf, Builtin.firstCells]
  · simp [Builtin.append_, run_underlying E.und, sizeOf, typeInfo, hi0, Builtin.lenOf, Builtin.firstCells, hnc, storeCells]

theorem run_app (E : El α) (w : World) (base B : Nat) (ty : TypeId) (v : Value) (l m : List α) (A : Option Addr) (c : Nat) (hown : OW E w base v l) (hr : RW E w B A m) (hlen : l.length + m.length ≤ 1000000) (hbase : base ≤ w.heap.size) :
    ∃ A' c' w', (Builtin.append_ #[E.t, E.t] ty #[v, .slice A m.length c]).run Tryz.prog w = .ok (.slice A' (l ++ m).length c') w' ∧ OW E w' base (.slice A' (l ++ m).length c') (l ++ m) ∧ w.grownBy w' v.ownBlock ∧
      ((Value.slice A' (l ++ m).length c').ownBlock = v.ownBlock ∨ (Value.slice A' (l ++ m).length c').ownBlock = some w.heap.size) := by
  obtain ⟨i0, hi0, hz0, hz1, hz2⟩ := info_parts' E.info
  rcases A with _ | ad
  · have hm : m = [] := by
      rcases hr with h | ⟨b, off, h, _⟩
      · exact h
      · cases h
    subst hm
    obtain ⟨A', c', rfl⟩ := own_shape hown
    refine ⟨A', c', w, ?_, ?_, ?_, ?_⟩
    · have := run_app_nil E w base ty _ _ c _ hown
      simpa using this
    · simpa using hown
    · exact World.grownBy.refl w _
    · left; simp
  · have hcells : ∀ j u, (flat E m)[j]? = some u → w.cell? (ad.add j) = some u := by
      intro j u hu
      obtain ⟨i, j', x, rfl, hx, hu'⟩ := flat_at E hu
      rcases hr with rfl | ⟨b, off, h, _, hc⟩
      · simp at hx
      · have h := Option.some.inj h
        rw [h]
        have := hc i x hx j' u hu'
        rw [add_at, ← Nat.add_assoc]
        exact this
    have hb1 : (l.length + m.length) * E.bytes ≤ 140737488355328 := Nat.le_trans (Nat.mul_le_mul hlen E.bsm) (by decide)
    obtain ⟨v', w', hrun, h2, h3, _, h5⟩ := run_append_own_at (P := Tryz.prog) w base E.t ty E.e i0 E.z E.k E.bytes E.und hi0 hz0 hz1 hz2 E.zsz E.kpos v l.length (flat E l) hown ad m.length c (flat E m) (flat_len E m) hcells (flat_one E m) (Nat.le_trans hlen (by decide)) hb1 hbase
    rw [← flat_app, ← List.length_append] at h2
    obtain ⟨A', c', rfl⟩ := own_shape h2
    exact ⟨A', c', w', hrun, h2, h3, h5⟩

theorem wpList_app (E : El α) {w : World} {ops : Array Oper} {rest : List Oper} {o : Oper} {a : Act} {Q : Exit → Act → World → Prop} (hgd : o.guard = none) (t : TypeId) (ht : E.t = t) (s x : Operand)
    (ho : o.op = .call { callee := .builtin .append, args := #[s, x], argTypes := #[t, t] })
    (base B : Nat) (v : Value) (l m : List α) (A : Option Addr) (c n : Nat) (hn : m.length = n) (hs : a.eval s = v) (hx : a.eval x = .slice A n c)
    (hown : OW E w base v l) (hr : RW E w B A m) (hlen : l.length + m.length ≤ 1000000) (hbase : base ≤ w.heap.size)
    (h : ∀ A' c' w' lm, Hid (lm = l ++ m) → Hid (OW E w' base (.slice A' lm.length c') lm) → Hid (w.grownBy w' v.ownBlock) →
      Hid ((Value.slice A' lm.length c').ownBlock = v.ownBlock ∨ (Value.slice A' lm.length c').ownBlock = some w.heap.size) → wpList Tryz.prog ops Q rest (a.put o.dst (.slice A' lm.length c')) w') :
    wpList Tryz.prog ops Q (o :: rest) a w := by
  subst ht; subst hn
  refine wpList_plain hgd fun K hK => ?_
  obtain ⟨A', c', w', hrun, h2, h3, h4⟩ := run_app E w base B o.type v l m A c hown hr hlen hbase
  unfold Oper.wp execOp
  simp only [ho, resolve, invoke, builtin, Sem.run_bind, Sem.run_pure, Result.andThen_ok, List.map_toArray, List.map_cons, List.map_nil, hs, hx, hrun]
  exact hK _ _ (h A' c' w' (l ++ m) (Lib.hid rfl) (Lib.hid h2) (Lib.hid h3) (Lib.hid h4))
end
end Go.Proofs.YtpjenkgimkndaaaGreat.Con
