/-
  Words for memory: a slice of bytes or of numbers that reads as a list; what a call that writes into a row of its own leaves; append onto such a row; bytes as a text.
-/
import Derived.Test.YtadpajkjjmdcnaaDoorPmt
import Derived.Test.YtadpajkjjmdcnaaDoorRows
import Derived.WalkKit
import Derived.Lib.Hide
import Derived.Deep.Draws
import Derived.Maps.AppendAt
import Derived.Deep.AppendLies
import Derived.RegionTactic
import Derived.OwnWalk
import Derived.Laws.BytesArg
import Derived.Lib.AppendStr
namespace Go.Proofs.YtadpajkjjmdcnaaDoor.Pm
open Go.RowKit Mth

/-- The cells of a list of numbers of one kind. -/
def vs (K : IntKind) (l : List Int) : List Value := l.map (Value.int K)

theorem vs_at {K : IntKind} {l : List Int} {k : Nat} {x : Int} (h : l[k]? = some x) : (vs K l)[k]? = some (.int K x) := by simp [vs, h]
theorem at_vs {K : IntKind} {l : List Int} {k : Nat} {u : Value} (h : (vs K l)[k]? = some u) : ∃ x, l[k]? = some x ∧ u = .int K x := by
  simp only [vs, List.getElem?_map, Option.map_eq_some_iff] at h
  obtain ⟨x, h1, h2⟩ := h
  exact ⟨x, h1, h2.symm⟩
theorem vs_one (K : IntKind) (l : List Int) : ∀ u ∈ vs K l, u.oneCell' = true := by
  intro u hu
  simp only [vs, List.mem_map] at hu
  obtain ⟨x, _, rfl⟩ := hu
  rfl
theorem vs_length (K : IntKind) (l : List Int) : (vs K l).length = l.length := by simp [vs]
theorem vs_app (K : IntKind) (l m : List Int) : vs K l ++ vs K m = vs K (l ++ m) := by simp [vs]

/-- A slice at A reads as the numbers l, below block number B. -/
def Rd (K : IntKind) (w : World) (B : Nat) (A : Option Addr) (l : List Int) : Prop :=
  l = [] ∨ ∃ b off, A = some ⟨b, off, none⟩ ∧ b < B ∧ ∀ k x, l[k]? = some x → w.cell? ⟨b, off + k, none⟩ = some (.int K x)

theorem add_none (b off k : Nat) : (⟨b, off, none⟩ : Addr).add k = ⟨b, off + k, none⟩ := by unfold Addr.add; split <;> simp_all

theorem Rd.at' {K : IntKind} {w : World} {B : Nat} {A : Option Addr} {l : List Int} (h : Rd K w B A l) {k : Nat} (hk : k < l.length) :
    ∃ b off x, A = some ⟨b, off, none⟩ ∧ b < B ∧ l[k]? = some x ∧ w.cell? ⟨b, off + k, none⟩ = some (.int K x) := by
  rcases h with rfl | ⟨b, off, hA, hb, hc⟩
  · simp at hk
  · exact ⟨b, off, l[k], hA, hb, List.getElem?_eq_getElem hk, hc k _ (List.getElem?_eq_getElem hk)⟩
theorem Rd.nil {K : IntKind} {w : World} {B : Nat} {A : Option Addr} : Rd K w B A [] := .inl rfl
theorem Rd.keep {K : IntKind} {w w' : World} {B : Nat} {A : Option Addr} {l : List Int} (h : Rd K w B A l) (hk : ∀ b, b < B → w'.heap[b]? = w.heap[b]?) : Rd K w' B A l := by
  rcases h with rfl | ⟨b, off, hA, hb, hc⟩
  · exact .inl rfl
  · exact .inr ⟨b, off, hA, hb, fun k x hx => (World.cell?_of_block (w := w) (hk b hb)).trans (hc k x hx)⟩
theorem Rd.below {K : IntKind} {w w' : World} {B B' : Nat} {A : Option Addr} {l : List Int} (h : Rd K w B A l) (hb : Below B' w w') (hB : B ≤ B') : Rd K w' B A l := h.keep fun b hlt => hb.block b (by omega)
theorem Rd.more {K : IntKind} {w : World} {B B' : Nat} {A : Option Addr} {l : List Int} (h : Rd K w B A l) (hB : B ≤ B') : Rd K w B' A l := by
  rcases h with rfl | ⟨b, off, hA, hb, hc⟩
  · exact .inl rfl
  · exact .inr ⟨b, off, hA, by omega, hc⟩
theorem Rd.alloc {K : IntKind} {w : World} {B : Nat} {A : Option Addr} {l : List Int} (h : Rd K w B A l) (hB : B ≤ w.heap.size) (o : Obj) : Rd K (w.alloc o) B A l := h.keep fun b hb => Below.heap_alloc w o b (by omega)
theorem Rd.drewN {K : IntKind} {w : World} {B : Nat} {A : Option Addr} {l : List Int} (h : Rd K w B A l) (n : Nat) : Rd K (w.drewN n) B A l := h
theorem Rd.take {K : IntKind} {w : World} {B : Nat} {A : Option Addr} {l : List Int} (h : Rd K w B A l) (n : Nat) : Rd K w B A (l.take n) := by
  rcases h with rfl | ⟨b, off, hA, hb, hc⟩
  · exact .inl (by simp)
  · refine .inr ⟨b, off, hA, hb, fun k x hx => hc k x ?_⟩
    rw [List.getElem?_take] at hx
    split at hx
    · exact hx
    · cases hx
theorem Rd.cut {K : IntKind} {w : World} {B : Nat} {b off : Nat} {l : List Int} (h : Rd K w B (some ⟨b, off, none⟩) l) (n : Nat) : Rd K w B (some ⟨b, off + n, none⟩) (l.drop n) := by
  rcases h with rfl | ⟨b', off', hA, hb, hc⟩
  · exact .inl (by simp)
  · injection hA with hA
    injection hA with h1 h2
    subst h1; subst h2
    refine .inr ⟨b, off + n, rfl, hb, fun k x hx => ?_⟩
    rw [Nat.add_assoc]
    exact hc _ x (by rw [← hx, List.getElem?_drop])
theorem Rd.of_own {K : IntKind} {w : World} {base : Nat} {e : TypeId} {A : Option Addr} {n c : Nat} {l : List Int} (h : w.ownsRow base e 1 (.slice A n c) n (vs K l)) : Rd K w w.heap.size A l := by
  rcases h.2 with ⟨hv, rfl⟩ | ⟨g, cap, cur, hv, _, hg, _⟩
  · left
    have := h.1
    simp [vs_length] at this
    exact this
  · injection hv with hA _ _
    subst hA
    refine .inr ⟨g, 0, rfl, (Array.getElem?_eq_some_iff.1 hg).1, fun k x hx => ?_⟩
    have := h.cells (g := g) rfl k _ (vs_at hx)
    rw [add_none] at this
    exact this
theorem rd_new {K : IntKind} (w : World) (l : List Int) (cs : Array Value) (t : TypeId) (h : cs.toList = vs K l) : Rd K (w.alloc (.cells cs t)) (w.heap.size + 1) (some ⟨w.heap.size, 0, none⟩) l := by
  refine .inr ⟨w.heap.size, 0, rfl, by omega, fun k x hx => ?_⟩
  have hc := cell_of_row (w.alloc (.cells cs t)) w.heap.size (0 + k) cs t (0, 0) (heap_alloc_new w _)
  rw [hc, Nat.zero_add, ← Array.getElem?_toList, h]
  exact vs_at hx

theorem own_shape {w : World} {base : Nat} {e : TypeId} {v : Value} {n : Nat} {xs : List Value} (h : w.ownsRow base e 1 v n xs) : ∃ A c, v = .slice A n c := by
  rcases h.2 with ⟨rfl, rfl⟩ | ⟨g, cap, _, rfl, _⟩
  · exact ⟨none, 0, rfl⟩
  · exact ⟨_, cap, rfl⟩
theorem own_far {w w' : World} {base : Nat} {e : TypeId} {v : Value} {n : Nat} {xs : List Value} (h : w.ownsRow base e 1 v n xs) (hk : ∀ k, v.ownBlock = some k → w'.heap[k]? = w.heap[k]?) : w'.ownsRow base e 1 v n xs := by
  refine ⟨h.1, ?_⟩
  rcases h.2 with h2 | ⟨g, cap, cur, rfl, hg, hh, r⟩
  · exact .inl h2
  · exact .inr ⟨g, cap, cur, rfl, hg, (hk g rfl).trans hh, r⟩
theorem own_base {w : World} {base base' : Nat} {e : TypeId} {v : Value} {n : Nat} {xs : List Value} (h : w.ownsRow base e 1 v n xs) (hb : base' ≤ base) : w.ownsRow base' e 1 v n xs := by
  refine ⟨h.1, ?_⟩
  rcases h.2 with h2 | ⟨g, cap, cur, rfl, hg, r⟩
  · exact .inl h2
  · exact .inr ⟨g, cap, cur, rfl, by omega, r⟩

/-- A row of the call's own: l is what it holds, with its block's number. -/
def Own (w : World) (base : Nat) (K : IntKind) (e : TypeId) (A : Option Addr) (c : Nat) (l : List Int) : Prop := w.ownsRow base e 1 (.slice A l.length c) l.length (vs K l)
def blk (A : Option Addr) : Option Nat := A.map (·.block)
theorem blk_own (A : Option Addr) (n c : Nat) : (Value.slice A n c).ownBlock = blk A := by cases A <;> rfl

/-- From w to w' only the block r, and what is new, has turned; the row lies there, or is new. -/
structure Step (w w' : World) (r : Option Nat) (A : Option Addr) : Prop where
  grown : w.grownBy w' r
  lies : blk A = r ∨ ∃ k, blk A = some k ∧ w.heap.size ≤ k

theorem Step.refl (w : World) (A : Option Addr) : Step w w (blk A) A := ⟨World.grownBy.refl w _, .inl rfl⟩
theorem Step.trans {a b c : World} {r : Option Nat} {A A' : Option Addr} (h : Step a b r A) (k : Step b c (blk A) A') : Step a c r A' := by
  refine ⟨⟨k.grown.os.trans h.grown.os, k.grown.tape.trans h.grown.tape, k.grown.output.trans h.grown.output, Nat.le_trans h.grown.size k.grown.size, fun i hi hr => ?_⟩, ?_⟩
  · have hs := h.grown.size
    refine (k.grown.block i (by omega) ?_).trans (h.grown.block i hi hr)
    rcases h.lies with e | ⟨j, e, hj⟩
    · rw [e]; exact hr
    · rw [e]; intro he; injection he with he; omega
  · have hs := h.grown.size
    rcases k.lies with e | ⟨j, e, hj⟩
    · rw [e]; exact h.lies
    · exact .inr ⟨j, e, by omega⟩
theorem Step.alloc {a b : World} {r : Option Nat} {A : Option Addr} (h : Step a b r A) (o : Obj) : Step a (b.alloc o) r A :=
  ⟨⟨h.grown.os, h.grown.tape, h.grown.output, Nat.le_trans h.grown.size (by simp), fun i hi hne => (Below.heap_alloc b o i (Nat.lt_of_lt_of_le hi h.grown.size)).trans (h.grown.block i hi hne)⟩, h.lies⟩
theorem Step.below {B : Nat} {a b : World} {r A : Option Addr} (h : Step a b (blk r) A) (hr : ∀ k, blk r = some k → B ≤ k) (hB : B ≤ a.heap.size) : Below B a b :=
  ⟨h.grown.os, h.grown.tape, h.grown.output, h.grown.size, fun i hi => h.grown.block i (by omega) (fun e => by have := hr i e.symm; omega)⟩
theorem Own.alloc {w : World} {base : Nat} {K : IntKind} {e : TypeId} {A : Option Addr} {c : Nat} {l : List Int} (h : Own w base K e A c l) (o : Obj) : Own (w.alloc o) base K e A c l :=
  own_far h fun k hk => by
    refine Below.heap_alloc w o k ?_
    rcases h.2 with ⟨hv, _⟩ | ⟨g, cap, cur, hv, _, hg, _⟩
    · rw [hv] at hk; cases hk
    · rw [hv] at hk
      injection hk with hk
      have hk' : g = k := hk
      subst hk'
      exact (Array.getElem?_eq_some_iff.1 hg).1
theorem Own.lt {w : World} {base : Nat} {K : IntKind} {e : TypeId} {A : Option Addr} {c : Nat} {l : List Int} (h : Own w base K e A c l) : ∀ k, blk A = some k → base ≤ k ∧ k < w.heap.size := by
  intro k hk
  exact World.ownsRow.lt h k ((blk_own A l.length c).trans hk)
theorem Own.below {w w' : World} {B base : Nat} {K : IntKind} {e : TypeId} {A : Option Addr} {c : Nat} {l : List Int} (h : Own w base K e A c l) (hb : Below B w w') (hB : w.heap.size ≤ B) : Own w' base K e A c l :=
  own_far h fun k hk => hb.block k (by have := h.lt k ((blk_own A l.length c).symm.trans hk); omega)

/-- The table's rows of bytes and of numbers. -/
theorem byte_info : (Tryd.prog.info? 5).map (fun i => (i.zero, i.size, i.bytes)) = some (some (.int .u8 0), 1, 1) := by kernel_rfl
theorem int_info : (Tryd.prog.info? 3).map (fun i => (i.zero, i.size, i.bytes)) = some (some (.int .i64 0), 1, 8) := by kernel_rfl

theorem run_app_nil {t e : TypeId} {z : Value} {by' : Nat} (hu : Tryd.prog.underlying t = some (.slice e)) (hinf : (Tryd.prog.info? e).map (fun i => (i.zero, i.size, i.bytes)) = some (some z, 1, by'))
    (w : World) (base : Nat) (ty : TypeId) (v : Value) (n c : Nat) (xs : List Value) (hown : w.ownsRow base e 1 v n xs) :
    (Builtin.append_ #[t, t] ty #[v, .slice none 0 c]).run Tryd.prog w = .ok v w := by
  obtain ⟨i0, hi0, hz0, hz1, hz2⟩ := info_parts hinf
  rcases hown.2 with ⟨rfl, rfl⟩ | ⟨g, cap, cur, rfl, _, _, hnc, _⟩
  · simp [Builtin.append_, run_underlying hu, sizeOf, typeInfo, hi0, Builtin.lenOf, Builtin.firstCells]
  · simp [Builtin.append_, run_underlying hu, sizeOf, typeInfo, hi0, Builtin.lenOf, Builtin.firstCells, hnc, storeCells]

set_option maxRecDepth 20000 in
theorem run_app {K : IntKind} {t e : TypeId} {z : Value} {by' : Nat} (hu : Tryd.prog.underlying t = some (.slice e)) (hinf : (Tryd.prog.info? e).map (fun i => (i.zero, i.size, i.bytes)) = some (some z, 1, by')) (hz : z.cells.size = 1) (hby : by' ≤ 8)
    (w : World) (base B : Nat) (ty : TypeId) (A0 : Option Addr) (c0 : Nat) (l m : List Int) (A : Option Addr) (c : Nat) (hown : Own w base K e A0 c0 l) (hr : Rd K w B A m) (hlen : l.length + m.length ≤ 17179869184) (hbase : base ≤ w.heap.size) :
    ∃ A' c' w', (Builtin.append_ #[t, t] ty #[.slice A0 l.length c0, .slice A m.length c]).run Tryd.prog w = .ok (.slice A' (l ++ m).length c') w' ∧ Own w' base K e A' c' (l ++ m) ∧ Step w w' (blk A0) A' := by
  obtain ⟨i0, hi0, hz0, hz1, hz2⟩ := info_parts hinf
  rcases A with _ | ad
  · have hm : m = [] := by
      rcases hr with h | ⟨b, off, h, _⟩
      · exact h
      · cases h
    subst hm
    refine ⟨A0, c0, w, ?_, ?_, Step.refl _ _⟩
    · have := run_app_nil hu hinf w base ty _ _ c _ hown
      simpa using this
    · rw [List.append_nil]; exact hown
  · have hcells : ∀ j u, (vs K m)[j]? = some u → w.cell? (ad.add j) = some u := by
      intro j u hu
      obtain ⟨x, hx, rfl⟩ := at_vs hu
      rcases hr with rfl | ⟨b, off, h, _, hc⟩
      · simp at hx
      · injection h with h
        subst h
        rw [add_none]; exact hc j x hx
    have hb2 : (l.length + m.length) * by' ≤ (l.length + m.length) * 8 := Nat.mul_le_mul_left _ hby
    obtain ⟨v', w', hrun, h2, h3, _, h5⟩ := run_append_own_at (P := Tryd.prog) w base t ty e i0 _ 1 by' hu hi0 hz0 hz1 hz2 hz (by omega) _ l.length (vs K l) hown ad m.length c (vs K m) (by simp [vs_length]) hcells (vs_one K m) (by unfold maxLen; omega) (by omega) hbase
    rw [vs_app, ← List.length_append] at h2
    obtain ⟨A', c', rfl⟩ := own_shape h2
    refine ⟨A', c', w', hrun, h2, ⟨by rw [← blk_own A0 l.length c0]; exact h3, ?_⟩⟩
    rw [blk_own, blk_own] at h5
    rcases h5 with h5 | h5
    · exact .inl h5
    · exact .inr ⟨_, h5, Nat.le_refl _⟩

theorem wpList_app {K : IntKind} {t e : TypeId} {z : Value} {by' : Nat} (hu : Tryd.prog.underlying t = some (.slice e)) (hinf : (Tryd.prog.info? e).map (fun i => (i.zero, i.size, i.bytes)) = some (some z, 1, by')) (hz : z.cells.size = 1) (hby : by' ≤ 8)
    {w : World} {ops : Array Oper} {rest : List Oper} {o : Oper} {a : Act} {Q : Exit → Act → World → Prop} (hgd : o.guard = none) (s x : Operand)
    (ho : o.op = .call { callee := .builtin .append, args := #[s, x], argTypes := #[t, t] })
    (base B : Nat) (A0 : Option Addr) (c0 : Nat) (l m : List Int) (A : Option Addr) (c : Nat) (hs : a.eval s = .slice A0 l.length c0) (hx : a.eval x = .slice A m.length c)
    (hown : Own w base K e A0 c0 l) (hr : Rd K w B A m) (hlen : l.length + m.length ≤ 17179869184) (hbase : base ≤ w.heap.size)
    (h : ∀ A' c' w' lm, Hid (lm = l ++ m) → Hid (Own w' base K e A' c' lm) → Hid (Step w w' (blk A0) A') → wpList Tryd.prog ops Q rest (a.put o.dst (.slice A' lm.length c')) w') :
    wpList Tryd.prog ops Q (o :: rest) a w := by
  refine wpList_plain hgd fun Kk hK => ?_
  obtain ⟨A', c', w', hrun, h2, h3⟩ := run_app hu hinf hz hby w base B o.type A0 c0 l m A c hown hr hlen hbase
  unfold Oper.wp execOp
  simp only [ho, resolve, invoke, builtin, Sem.run_bind, Sem.run_pure, Result.andThen_ok, List.map_toArray, List.map_cons, List.map_nil, hs, hx, hrun]
  exact hK _ _ (h A' c' w' (l ++ m) rfl h2 h3)

set_option maxRecDepth 20000 in
/-- Bytes as a text. -/
theorem conv {w : World} {B : Nat} {A : Option Addr} {l : List Int} (c : Nat) (h : Rd .u8 w B A l) : (convert 27 9 (.slice A l.length c)).run Tryd.prog w = .ok (.string (strOfNums l)) w := by
  rcases A with _ | ad
  · rcases h with rfl | ⟨b, off, h, _⟩
    · exact run_convert_bytes_nil w 27 5 Tryd.underlying27 Tryd.underlying5 _ c 9 Tryd.underlying9
    · cases h
  · rcases h with rfl | ⟨b, off, h, _, hc⟩
    · rw [run_convert_bytes_string w 27 9 5 _ _ c Tryd.underlying27 Tryd.underlying5 Tryd.underlying9, run_bytesToString w ad _ c [] (by simp [loadCells, loadCellsFrom])]
      rfl
    · injection h with h
      subst h
      refine run_convert_bytes_arg w 27 5 Tryd.underlying27 Tryd.underlying5 b off l.length c l rfl (fun i hi => ?_) 9 Tryd.underlying9
      rw [hc i l[i] (List.getElem?_eq_getElem hi), List.getD_eq_getElem?_getD, List.getElem?_eq_getElem hi]
      rfl

/-- The bytes of a text. -/
def sb (s : ByteArray) : List Int := s.data.toList.map fun b => (b.toNat : Int)
theorem sb_len (s : ByteArray) : (sb s).length = s.size := by
  unfold sb
  rw [List.length_map, Array.length_toList]
  rfl
theorem sb_byt (s : ByteArray) : Byt (sb s) := by
  intro x hx
  simp only [sb, List.mem_map] at hx
  obtain ⟨b, _, rfl⟩ := hx
  have := b.toNat_lt
  omega
theorem sb_back (s : ByteArray) : strOfNums (sb s) = s := by
  obtain ⟨⟨d⟩⟩ := s
  simp [strOfNums, sb, Function.comp_def]
theorem str_inj {l m : List Int} (hl : Byt l) (hm : Byt m) (h : strOfNums l = strOfNums m) : l = m := by
  have h1 : (strOfNums l).data.toList = (strOfNums m).data.toList := by rw [h]
  rw [strOfNums_data, strOfNums_data] at h1
  clear h
  induction l generalizing m with
  | nil => cases m with
    | nil => rfl
    | cons y r => simp at h1
  | cons x l ih => cases m with
    | nil => simp at h1
    | cons y r =>
      simp only [List.map_cons, List.cons.injEq] at h1
      have hx := hl x (by simp)
      have hy := hm y (by simp)
      have e : (UInt8.ofNat x.toNat).toNat = (UInt8.ofNat y.toNat).toNat := by rw [h1.1]
      simp only [UInt8.toNat_ofNat'] at e
      rw [ih (fun z hz => hl z (List.mem_cons_of_mem _ hz)) (fun z hz => hm z (List.mem_cons_of_mem _ hz)) h1.2]
      congr 1
      omega
end Go.Proofs.YtadpajkjjmdcnaaDoor.Pm
