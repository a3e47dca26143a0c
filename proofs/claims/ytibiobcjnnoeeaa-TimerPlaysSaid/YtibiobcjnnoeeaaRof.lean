/-
  The document's queue: a row in the order of numbers behind a block; laws of append onto it; its Add.
-/
import Derived.Test.YtibiobcjnnoeeaaPq
import Derived.Test.YtibiobcjnnoeeaaSrt
import Derived.ArgAppend
import Derived.Deep.Upon
import Derived.Deep.RegionLawGrows
namespace Go.Proofs.Ytibiobcjnnoeeaa.Con
open Go.RowKit Tmr Go.Maps

/-- A row of timers that the law's side has made: with room behind, or cut so that none is left. -/
structure ROw (w : World) (base : Nat) (A : Option Addr) (c : Nat) (S : List Tm) : Prop where
  sh : A = none ∨ ∃ b, A = some ⟨b, 0, none⟩
  nil : A = none → S = [] ∧ c = 0
  le : S.length ≤ c
  lt : ∀ k, blk A = some k → base ≤ k ∧ k < w.heap.size
  rt : RT w w.heap.size A S
  own : Own w base A c S ∨ c = S.length
theorem ROw.of_own {w : World} {base : Nat} {A : Option Addr} {c : Nat} {S : List Tm} (h : Own w base A c S) : ROw w base A c S := by
  refine ⟨?_, ?_, ?_, h.lt, h.rt, .inl h⟩
  · rcases h.cases with ⟨h1, _⟩ | ⟨b, _, h1, _⟩
    · exact .inl h1
    · exact .inr ⟨b, h1⟩
  · rcases h.cases with ⟨_, h2, h3⟩ | ⟨b, _, h1, _⟩
    · exact fun _ => ⟨h2, h3⟩
    · intro e; rw [h1] at e; cases e
  · rcases h.cases with ⟨_, h2, h3⟩ | ⟨b, _, _, _, h2, _⟩
    · simp [h2]
    · exact h2
theorem ROw.keep {w w' : World} {base : Nat} {A : Option Addr} {c : Nat} {S : List Tm} (h : ROw w base A c S) (hs : w.heap.size ≤ w'.heap.size) (hk : ∀ k, blk A = some k → w'.heap[k]? = w.heap[k]?) : ROw w' base A c S := by
  refine ⟨h.sh, h.nil, h.le, fun k e => ⟨(h.lt k e).1, by have := (h.lt k e).2; omega⟩, ?_, ?_⟩
  · have : RT w' w.heap.size A S := h.rt.keep (fun b ⟨o, hA⟩ _ => hk b (by rw [hA]; rfl))
    rcases this with h1 | ⟨b, h1, h2, h3⟩
    · exact .inl h1
    · exact .inr ⟨b, h1, by omega, h3⟩
  · rcases h.own with h1 | h1
    · exact .inl (h1.keep hk)
    · exact .inr h1
theorem RT.take {w : World} {B : Nat} {A : Option Addr} {S : List Tm} (h : RT w B A S) (n : Nat) : RT w B A (S.take n) := by
  rcases h with rfl | ⟨b, h1, h2, h3⟩
  · exact .inl (by simp)
  · refine .inr ⟨b, h1, h2, fun k t ht => h3 k t ?_⟩
    rw [List.getElem?_take] at ht
    split at ht
    · exact ht
    · cases ht
/-- Cut to its beginning, with no room behind. -/
theorem ROw.cut {w : World} {base : Nat} {A : Option Addr} {c : Nat} {S : List Tm} (h : ROw w base A c S) {n : Nat} (hn : n ≤ S.length) : ROw w base A n (S.take n) := by
  refine ⟨h.sh, fun e => ?_, by simp; omega, h.lt, h.rt.take n, .inr (by simp; omega)⟩
  have := h.nil e
  rw [this.1] at hn ⊢
  simp at hn
  simp [hn]

/-- The cells of a row at an address. -/
theorem tvs_cells {w : World} {b : Nat} {S : List Tm} (h : ∀ k t, S[k]? = some t → w.cell? ⟨b, k * 3, none⟩ = some (.int .i64 t.due) ∧ w.cell? ⟨b, k * 3 + 1, none⟩ = some (.int .i64 t.tag) ∧ w.cell? ⟨b, k * 3 + 2, none⟩ = some (.int .i64 t.id)) : ∀ j u, (tvs S)[j]? = some u → w.cell? ⟨b, j, none⟩ = some u := by
  intro j u hu
  have hj := (List.getElem?_eq_some_iff.1 hu).1
  rw [tvs_length] at hj
  have hk : j / 3 < S.length := by omega
  obtain ⟨a1, a2, a3⟩ := tvs_at (g_at hk)
  obtain ⟨b1, b2, b3⟩ := h _ _ (g_at hk)
  rcases (by omega : j = j / 3 * 3 ∨ j = j / 3 * 3 + 1 ∨ j = j / 3 * 3 + 2) with e | e | e
  · rw [e] at hu ⊢; rw [a1] at hu; injection hu with hu; rw [← hu]; exact b1
  · rw [e] at hu ⊢; rw [a2] at hu; injection hu with hu; rw [← hu]; exact b2
  · rw [e] at hu ⊢; rw [a3] at hu; injection hu with hu; rw [← hu]; exact b3
theorem grown_some {w w' : World} {r : Option Nat} (h : w.grownBy w' none) : w.grownBy w' r := ⟨h.os, h.tape, h.output, h.size, fun k hk _ => h.block k hk (by simp)⟩
theorem wpList_appR {ops : Array Oper} {rest : List Oper} {o : Oper} {a : Act} {Q : Exit → Act → World → Prop} (w : World) (hgd : o.guard = none) (s x : Operand)
    (ho : o.op = .call { callee := .builtin .append, args := #[s, x], argTypes := #[27, 27] }) (base : Nat) (A : Option Addr) (c : Nat) (S T : List Tm) (n : Nat) (hn : S.length = n) (m : Nat) (hmT : T.length = m) (hs : a.eval s = .slice A n c) (hrow : ROw w base A c S)
    (ad : Addr) (cx : Nat) (hx : a.eval x = .slice (some ad) m cx) (hnews : ∀ j u, (tvs T)[j]? = some u → w.cell? (ad.add j) = some u) (hm : 0 < m) (hb : (n + m : Int) ≤ 5000) (hbase : base ≤ w.heap.size)
    (h : ∀ b c' w', Own w' base (some ⟨b, 0, none⟩) c' (S ++ T) → w.grownBy w' (blk A) → (blk A = some b ∨ w.heap.size ≤ b) → wpList Try.prog ops Q rest (a.put o.dst (.slice (some ⟨b, 0, none⟩) (n + m) c')) w') : wpList Try.prog ops Q (o :: rest) a w := by
  subst hn; subst hmT
  obtain ⟨i0, hi0, hz0, hz1, hz2⟩ := info_parts info33
  have el : S.length + T.length = (S ++ T).length := by simp
  rcases hrow.own with h1 | h1
  · refine wpList_append_lies w hgd s x 27 ho base 33 i0 _ 3 24 Try.underlying27 hi0 hz0 hz1 hz2 rfl (by omega) (.slice A S.length c) S.length (tvs S) hs h1 ad T.length cx (tvs T) hx (tvs_length T) hnews (tvs_one T) hm (by unfold maxLen; omega) (by omega) hbase w.heap.size rfl ?_
    intro b c' w' k1 k2 k3 k4
    rw [tvs_app] at k1
    refine h b c' w' (by rw [el] at k1; exact k1) ?_ ?_
    · rw [blk_own] at k2; exact k2
    · rw [blk_own] at k3
      rcases k3 with k3 | k3
      · exact .inl k3
      · exact .inr (by omega)
  · refine wpList_append_grows w hgd s x 27 ho 33 i0 _ 3 24 Try.underlying27 hi0 hz0 hz1 hz2 rfl (by omega) A S.length c (tvs S) hs (fun e => ⟨by rw [(hrow.nil e).1]; rfl, (hrow.nil e).2⟩) (tvs_length S) ?_ ad T.length cx (tvs T) hx (tvs_length T) hnews (tvs_one T) (by omega) (by unfold maxLen; omega) (by omega) ?_
    · intro b hA j u hu
      rcases hrow.rt with e | ⟨b', e1, _, e3⟩
      · rw [e] at hu; simp [tvs] at hu
      · rw [hA] at e1
        injection e1 with e1
        subst e1
        rw [add_none, Nat.zero_add]
        exact tvs_cells e3 j u hu
    · intro v' w' k1 k2
      obtain ⟨b, c', rfl, hb1, hb2⟩ := k1.form (by omega)
      rw [tvs_app, el] at k1
      exact h b c' w' (Own.more k1 hbase) (grown_some k2) (.inr hb1)
theorem step_appR {ops : Array Oper} {o : Oper} {a : Act} {K : Act → World → Prop} {Q : Exit → Act → World → Prop} {E : Prop} (w : World) (hgd : o.guard = none) (s x : Operand)
    (ho : o.op = .call { callee := .builtin .append, args := #[s, x], argTypes := #[27, 27] }) (base : Nat) (A : Option Addr) (c : Nat) (S T : List Tm) (n : Nat) (hn : S.length = n) (m : Nat) (hmT : T.length = m) (hs : a.eval s = .slice A n c) (hrow : ROw w base A c S)
    (ad : Addr) (cx : Nat) (hx : a.eval x = .slice (some ad) m cx) (hnews : ∀ j u, (tvs T)[j]? = some u → w.cell? (ad.add j) = some u) (hm : 0 < m) (hb : (n + m : Int) ≤ 5000) (hbase : base ≤ w.heap.size)
    (h : ∀ b c' w', Own w' base (some ⟨b, 0, none⟩) c' (S ++ T) → w.grownBy w' (blk A) → (blk A = some b ∨ w.heap.size ≤ b) → K (a.put o.dst (.slice (some ⟨b, 0, none⟩) (n + m) c')) w') : if Region.wanted o (yielded ops a.tmps) = true then Oper.wp Try.prog o a w K Q else E := by
  subst hn; subst hmT
  obtain ⟨i0, hi0, hz0, hz1, hz2⟩ := info_parts info33
  have el : S.length + T.length = (S ++ T).length := by simp
  rcases hrow.own with h1 | h1
  · refine step_append_lies w hgd s x 27 ho base 33 i0 _ 3 24 Try.underlying27 hi0 hz0 hz1 hz2 rfl (by omega) (.slice A S.length c) S.length (tvs S) hs h1 ad T.length cx (tvs T) hx (tvs_length T) hnews (tvs_one T) hm (by unfold maxLen; omega) (by omega) hbase w.heap.size rfl ?_
    intro b c' w' k1 k2 k3 k4
    rw [tvs_app] at k1
    refine h b c' w' (by rw [el] at k1; exact k1) ?_ ?_
    · rw [blk_own] at k2; exact k2
    · rw [blk_own] at k3
      rcases k3 with k3 | k3
      · exact .inl k3
      · exact .inr (by omega)
  · refine step_append_grows hgd s x 27 ho 33 i0 _ 3 24 Try.underlying27 hi0 hz0 hz1 hz2 rfl (by omega) A S.length c (tvs S) hs (fun e => ⟨by rw [(hrow.nil e).1]; rfl, (hrow.nil e).2⟩) (tvs_length S) ?_ ad T.length cx (tvs T) hx (tvs_length T) hnews (tvs_one T) (by omega) (by unfold maxLen; omega) (by omega) ?_
    · intro b hA j u hu
      rcases hrow.rt with e | ⟨b', e1, _, e3⟩
      · rw [e] at hu; simp [tvs] at hu
      · rw [hA] at e1
        injection e1 with e1
        subst e1
        rw [add_none, Nat.zero_add]
        exact tvs_cells e3 j u hu
    · intro v' w' k1 k2
      obtain ⟨b, c', rfl, hb1, hb2⟩ := k1.form (by omega)
      rw [tvs_app, el] at k1
      exact h b c' w' (Own.more k1 hbase) (grown_some k2) (.inr hb1)
theorem wpList_nothing {ops : Array Oper} {rest : List Oper} {o : Oper} {a : Act} {Q : Exit → Act → World → Prop} (w : World) (hgd : o.guard = none) (s x : Operand)
    (ho : o.op = .call { callee := .builtin .append, args := #[s, x], argTypes := #[27, 27] }) (A : Option Addr) (n c : Nat) (hn : n ≤ c) (hs : a.eval s = .slice A n c) (Ax : Option Addr) (cx : Nat) (hx : a.eval x = .slice Ax 0 cx)
    (h : wpList Try.prog ops Q rest (a.put o.dst (.slice A n c)) w) : wpList Try.prog ops Q (o :: rest) a w := by
  obtain ⟨i0, hi0, hz0, hz1, hz2⟩ := info_parts info33
  refine wpList_plain hgd fun K hK => ?_
  have hsrc : Src Try.prog i0.size 27 (.slice Ax 0 cx) 0 [] w := by
    rcases Ax with _ | ad
    · exact Src.ofNil w Try.underlying27 cx
    · exact Src.ofSlice w Try.underlying27 ad 0 cx [] (by simp) (by simp) (by simp)
  have hrun := run_append_nothing (P := Try.prog) w 27 27 o.type 33 i0 Try.underlying27 hi0 A n c hn (.slice Ax 0 cx) hsrc
  unfold Oper.wp execOp
  simp only [ho, resolve, invoke, builtin, Sem.run_bind, Sem.run_pure, Result.andThen_ok, List.map_toArray, List.map_cons, List.map_nil, hs, hx, hrun]
  exact hK _ _ h

/-- The document's queue at block g. -/
structure RQ (w : World) (base gb : Nat) (A : Option Addr) (c : Nat) (S : List Tm) (last : Int) : Prop where
  st : w.heap[gb]? = some (.cells #[.slice A S.length c, .int .i64 last] 29 (0, 0))
  row : ROw w base A c S
  bg : base ≤ gb
  ne : ∀ k, blk A = some k → k ≠ gb
  good : Tmr.Good S last
  len : (S.length : Int) ≤ 2000
  lo : 0 ≤ last
  hi : last ≤ 100000
def rbl (gb : Nat) (A : Option Addr) : List Nat := gb :: (blk A).toList
section
variable {w w' : World} {base gb : Nat} {A : Option Addr} {c : Nat} {S : List Tm} {last : Int}
theorem RQ.cell0 (h : RQ w base gb A c S last) : w.cell? ⟨gb, 0, none⟩ = some (.slice A S.length c) := (cell_of_row w gb 0 _ 29 (0, 0) h.st).trans rfl
theorem RQ.cell1 (h : RQ w base gb A c S last) : w.cell? ⟨gb, 1, none⟩ = some (.int .i64 last) := (cell_of_row w gb 1 _ 29 (0, 0) h.st).trans rfl
theorem RQ.fz (h : RQ w base gb A c S last) (k : Nat) : w.frozen? ⟨gb, k, none⟩ = false := by simp [World.frozen?, h.st]
theorem RQ.lt (h : RQ w base gb A c S last) : gb < w.heap.size := (Array.getElem?_eq_some_iff.1 h.st).1
theorem RQ.lo' (h : RQ w base gb A c S last) : ∀ k ∈ rbl gb A, base ≤ k ∧ k < w.heap.size := by
  intro k hk
  simp only [rbl, List.mem_cons, Option.mem_toList] at hk
  rcases hk with rfl | hk
  · exact ⟨h.bg, h.lt⟩
  · exact h.row.lt k hk
theorem RQ.off {bs : List Nat} (h : RQ w base gb A c S last) (ho : Off w w' bs) (hq : ∀ k ∈ rbl gb A, k ∉ bs) : RQ w' base gb A c S last :=
  ⟨(ho.block gb h.lt (hq gb (by simp [rbl]))).trans h.st, h.row.keep ho.size (fun k hk => ho.block k (h.row.lt k hk).2 (hq k (by simp [rbl, hk]))), h.bg, h.ne, h.good, h.len, h.lo, h.hi⟩
theorem RQ.step (h : RQ w base gb A c S last) (hb : Below w.heap.size w w') : RQ w' base gb A c S last :=
  h.off (bs := []) ⟨hb.os, hb.tape, hb.output, hb.size, fun k hk _ => hb.block k hk⟩ (fun k _ => by simp)
/-- The struct's slice written anew. -/
theorem RQ.set0 {A' : Option Addr} {c' : Nat} {S' : List Tm} {bs : List Nat} (h : RQ w base gb A c S last) (ho : Off w w' bs) (hq : gb ∉ bs) (hr : ROw w' base A' c' S') (hne : ∀ k, blk A' = some k → k ≠ gb) (hg : Tmr.Good S' last) (hl : (S'.length : Int) ≤ 2000) (n : Nat) (hn : S'.length = n) : RQ (w'.setCell ⟨gb, 0, none⟩ (.slice A' n c')) base gb A' c' S' last := by
  subst hn
  have e := (ho.block gb h.lt hq).trans h.st
  refine ⟨by simp [World.setCell, Array.getElem?_modify, e], hr.keep (by simp [World.setCell]) (fun k hk => Below.heap_setCell _ _ _ _ (hne k hk)), h.bg, hne, hg, hl, h.lo, h.hi⟩
/-- What a call on the document's queue leaves. -/
def RLeft (w : World) (base gb : Nat) (A : Option Addr) (S' : List Tm) (last' : Int) (w' : World) : Prop :=
  ∃ A' c', Hid (RQ w' base gb A' c' S' last') ∧ Hid (Off w w' (rbl gb A)) ∧ Hid (∀ k ∈ rbl gb A', k ∈ rbl gb A ∨ w.heap.size ≤ k)
end
end Go.Proofs.Ytibiobcjnnoeeaa.Con
