/-
  Rows of which each holds a row of its own (of any two kinds): how they read, how they grow in memory of the call's own, a row of theirs that grows beside them, and such as are written over. For any kinds.
-/
import Derived.Test.YtmdnjkiciaidiaaElm
namespace Go.Proofs.Ytmdnjkiciaidiaa.Con
open Go.RowKit Go.Maps

/-- The block of an address. -/
abbrev blk (A : Option Addr) : Option Nat := A.map Addr.block
section
variable {α β : Type}
theorem grown_frozen {w w' : World} {ob : Option Nat} (hg : w.grownBy w' ob) {b : Nat} (hb : b < w.heap.size) (hne : ob ≠ some b) (o : Nat) : w'.frozen? ⟨b, o, none⟩ = w.frozen? ⟨b, o, none⟩ :=
  World.frozen?_of_block (a := ⟨b, o, none⟩) (w := w) (hg.block b hb (fun e => hne e.symm))
theorem PW.grown {E : El α} {w w' : World} {ob : Option Nat} {N : Nat} {A : Option Addr} {l : List α} (h : PW E w N A l) (hg : w.grownBy w' ob) (hne : l ≠ [] → ∀ k, ob = some k → blk A ≠ some k) : PW E w' N A l := by
  by_cases e : l = []
  · exact .inl e
  · rcases h with h | ⟨b, off, hA, hN, hlt, hc, hf⟩
    · exact absurd h e
    · have hb : ob ≠ some b := fun f => hne e b f (by rw [hA]; rfl)
      exact .inr ⟨b, off, hA, hN, Nat.lt_of_lt_of_le hlt hg.size, fun i x hx j v hv => (World.cell?_of_block (w := w) (hg.block b hlt (fun e => hb e.symm))).trans (hc i x hx j v hv), fun o => (grown_frozen hg hlt hb o).trans (hf o)⟩
theorem PW.lt' {E : El α} {w : World} {N : Nat} {A : Option Addr} {l : List α} (h : PW E w N A l) (e : l ≠ []) : ∃ b, blk A = some b ∧ N ≤ b ∧ b < w.heap.size := by
  rcases h with h | ⟨b, off, hA, hN, hlt, _⟩
  · exact absurd h e
  · exact ⟨b, by rw [hA]; rfl, hN, hlt⟩
/-- A store elsewhere. -/
theorem PW.apart {E : El α} {w : World} {N : Nat} {A : Option Addr} {l : List α} (h : PW E w N A l) {b o : Nat} (hne : l ≠ [] → blk A ≠ some b) (u : Value) : PW E (w.setCell ⟨b, o, none⟩ u) N A l := by
  by_cases e : l = []
  · exact .inl e
  · rcases h with h | ⟨b', off, hA, hN, hlt, hc, hf⟩
    · exact absurd h e
    · refine .inr ⟨b', off, hA, hN, by simpa using hlt, fun i x hx j v hv => ?_, fun o => by rw [World.frozen?_setCell]; exact hf o⟩
      rw [World.cell?_setCell_other _ _ _ _ (fun f => hne e (by rw [hA]; injection f with f; rw [f]; rfl))]
      exact hc i x hx j v hv
theorem OW.blk' {E : El α} {w : World} {base n c : Nat} {A : Option Addr} {l : List α} (h : OW E w base (.slice A n c) l) (hl : l ≠ []) : blk A = (Value.slice A n c).ownBlock := by
  obtain ⟨A', c', hv, _, h2⟩ := h.shape
  injection hv with e1 e2 e3
  subst e1
  rcases h2 with ⟨_, rfl, _⟩ | ⟨b, cur, rfl, _⟩
  · exact absurd rfl hl
  · rfl

/-! ### m cells at an address that may be stored into -/
def MO (w : World) (N : Nat) (A : Option Addr) (m : Nat) : Prop := m = 0 ∨ ∃ b off, A = some ⟨b, off, none⟩ ∧ N ≤ b ∧ b < w.heap.size ∧ (∀ i, i < m → ∃ v, w.cell? ⟨b, off + i, none⟩ = some v) ∧ ∀ o, w.frozen? ⟨b, o, none⟩ = false
theorem MO.of {w w' : World} {N : Nat} {A : Option Addr} {m : Nat} (h : MO w N A m) (hb : Below w.heap.size w w') : MO w' N A m := by
  rcases h with h | ⟨b, off, hA, hN, hlt, hc, hf⟩
  · exact .inl h
  · refine .inr ⟨b, off, hA, hN, Nat.lt_of_lt_of_le hlt hb.size, fun i hi => ?_, fun o => (hb.frozen (p := ⟨b, o, none⟩) hlt).trans (hf o)⟩
    obtain ⟨v, hv⟩ := hc i hi
    exact ⟨v, (hb.cell (p := ⟨b, off + i, none⟩) hlt).trans hv⟩
theorem MO.set {w : World} {N : Nat} {A : Option Addr} {m : Nat} (h : MO w N A m) (b' o : Nat) (u : Value) : MO (w.setCell ⟨b', o, none⟩ u) N A m := by
  rcases h with h | ⟨b, off, hA, hN, hlt, hc, hf⟩
  · exact .inl h
  · refine .inr ⟨b, off, hA, hN, by simpa using hlt, fun i hi => ?_, fun o => by rw [World.frozen?_setCell]; exact hf o⟩
    obtain ⟨v, hv⟩ := hc i hi
    by_cases e : (⟨b', o, none⟩ : Addr) = ⟨b, off + i, none⟩
    · rw [e]; exact ⟨u, World.cell?_setCell_same _ _ _ hv⟩
    · exact ⟨v, by rw [World.cell?_setCell_other _ _ _ _ e]; exact hv⟩
theorem MO.at' {w : World} {N : Nat} {A : Option Addr} {m : Nat} (h : MO w N A m) {i : Nat} (hi : i < m) : ∃ b off, A = some ⟨b, off, none⟩ ∧ N ≤ b ∧ b < w.heap.size ∧ (∃ v, w.cell? ⟨b, off + i, none⟩ = some v) ∧ w.frozen? ⟨b, off + i, none⟩ = false := by
  rcases h with h | ⟨b, off, hA, hN, hlt, hc, hf⟩
  · omega
  · exact ⟨b, off, hA, hN, hlt, hc i hi, hf _⟩
theorem PW.mo {E : El α} {w : World} {N : Nat} {A : Option Addr} {l : List α} (h : PW E w N A l) (hk : E.k = 1) : MO w N A l.length := by
  rcases h with rfl | ⟨b, off, hA, hN, hlt, hc, hf⟩
  · exact .inl rfl
  · refine .inr ⟨b, off, hA, hN, hlt, fun i hi => ?_, hf⟩
    have hx : l[i]? = some l[i] := List.getElem?_eq_getElem hi
    have h1 : 0 < (E.enc l[i]).length := by rw [E.klen, hk]; omega
    have := hc i _ hx 0 _ (List.getElem?_eq_getElem h1)
    rw [hk, Nat.mul_one, Nat.add_zero] at this
    exact ⟨_, this⟩
end

section
variable {α β : Type} (E : El α) (G : El β) (ad : α → Option Addr) (ro : α → List β)
/-- Rows with a row each, as they read from blocks below B. -/
def KR (w : World) (B : Nat) (A : Option Addr) (l : List α) : Prop := RW E w B A l ∧ ∀ x ∈ l, RW G w B (ad x) (ro x)
/-- A row of the call's own, each with a row of the call's own. -/
structure KO (w : World) (base : Nat) (v : Value) (l : List α) : Prop where
  own : OW E w base v l
  inn : ∀ x ∈ l, PW G w base (ad x) (ro x)
  ne : ∀ x ∈ l, ro x ≠ [] → ∀ k, v.ownBlock = some k → blk (ad x) ≠ some k
/-- Such a row, and one that grows beside it. -/
structure K2 (w0 V : World) (base : Nat) (v u : Value) (l : List α) (m : List β) : Prop where
  a : KO E G ad ro V base v l
  b : OW G V base u m
  ne : ∀ k, v.ownBlock = some k → u.ownBlock ≠ some k
  nx : ∀ x ∈ l, ro x ≠ [] → ∀ k, u.ownBlock = some k → blk (ad x) ≠ some k
  below : Below base w0 V
  top : base ≤ V.heap.size
/-- Rows of which each one's own may be written over. -/
structure KM (w : World) (N : Nat) (A : Option Addr) (l : List α) : Prop where
  out : PW E w N A l
  inn : ∀ x ∈ l, MO w N (ad x) (ro x).length
  ne : ∀ x ∈ l, ro x ≠ [] → blk A ≠ blk (ad x)
variable {E G ad ro}
variable {w w' w0 V V' : World} {B B' base base' N : Nat} {A : Option Addr} {v u v' u' : Value} {l l' : List α} {m m' : List β} {x : α}
theorem KR.below (h : KR E G ad ro w B A l) (hb : Below B' w w') (hB : B ≤ B') : KR E G ad ro w' B A l := ⟨h.1.below hb hB, fun x hx => (h.2 x hx).below hb hB⟩
theorem KR.more (h : KR E G ad ro w B A l) (hB : B ≤ B') : KR E G ad ro w B' A l := ⟨h.1.more hB, fun x hx => (h.2 x hx).more hB⟩
theorem KR.nil (w : World) (B : Nat) (A : Option Addr) : KR E G ad ro w B A [] := ⟨.inl rfl, fun x hx => (by cases hx)⟩
theorem KR.inner (h : KR E G ad ro w B A l) {i : Nat} (hx : l[i]? = some x) : RW G w B (ad x) (ro x) := h.2 x (List.mem_of_getElem? hx)
theorem KO.nil (w : World) (base : Nat) : KO E G ad ro w base (.slice none 0 0) [] := ⟨OW.nil E w base, fun x hx => (by cases hx), fun x hx => (by cases hx)⟩
theorem KO.of (h : KO E G ad ro w base v l) (hb : Below w.heap.size w w') : KO E G ad ro w' base v l := ⟨h.own.of hb, fun x hx => (h.inn x hx).of hb, h.ne⟩
theorem KO.mono (h : KO E G ad ro w base v l) (hb : base' ≤ base) : KO E G ad ro w base' v l := ⟨h.own.mono hb, fun x hx => (h.inn x hx).mono hb, h.ne⟩
theorem KO.kr {n c : Nat} (h : KO E G ad ro w base (.slice A n c) l) : KR E G ad ro w w.heap.size A l := ⟨h.own.pw.rw', fun x hx => (h.inn x hx).rw'⟩
theorem KO.km {n c : Nat} (h : KO E G ad ro w base (.slice A n c) l) (hk : G.k = 1) : KM E ad ro w base A l :=
  ⟨h.own.pw, fun x hx => (h.inn x hx).mo hk, fun x hx hr e => by
    have hl : l ≠ [] := List.ne_nil_of_mem hx
    obtain ⟨b, hb, _⟩ := (h.inn x hx).lt' hr
    exact h.ne x hx hr b (by rw [← h.own.blk' hl, e, hb]) hb⟩
/-- Behind an append of one with a row that lies apart. -/
theorem KO.app (h : KO E G ad ro w base v l) (hx : PW G w base (ad x) (ro x)) (hne : ro x ≠ [] → ∀ k, v.ownBlock = some k → blk (ad x) ≠ some k) (hg : w.grownBy w' v.ownBlock) (ho : OW E w' base v' (l ++ [x])) (hw : v'.ownBlock = v.ownBlock ∨ v'.ownBlock = some w.heap.size) : KO E G ad ro w' base v' (l ++ [x]) := by
  have hp : ∀ y ∈ l ++ [x], PW G w base (ad y) (ro y) ∧ (ro y ≠ [] → ∀ k, v.ownBlock = some k → blk (ad y) ≠ some k) := by
    intro y hy
    rcases List.mem_append.1 hy with hy | hy
    · exact ⟨h.inn y hy, h.ne y hy⟩
    · rcases List.mem_singleton.1 hy with rfl; exact ⟨hx, hne⟩
  refine ⟨ho, fun y hy => (hp y hy).1.grown hg (hp y hy).2, fun y hy hr k hk e => ?_⟩
  rcases hw with f | f
  · exact (hp y hy).2 hr k (by rw [← f]; exact hk) e
  · obtain ⟨b, hb, _, hlt⟩ := (hp y hy).1.lt' hr
    rw [f] at hk; injection hk with hk
    rw [hb] at e; injection e with e
    omega
theorem K2.of (h : K2 E G ad ro w0 V base v u l m) (hb : Below V.heap.size V V') : K2 E G ad ro w0 V' base v u l m := ⟨h.a.of hb, h.b.of hb, h.ne, h.nx, h.below.trans (hb.mono h.top), Nat.le_trans h.top hb.size⟩
theorem K2.start (hb : Below base w0 V) (ht : base ≤ V.heap.size) : K2 E G ad ro w0 V base (.slice none 0 0) (.slice none 0 0) [] [] :=
  ⟨KO.nil V base, OW.nil G V base, fun _ hk => (by cases hk), fun x hx => (by cases hx), hb, ht⟩
/-- The row beside it begins anew. -/
theorem K2.anew (h : K2 E G ad ro w0 V base v u l m) : K2 E G ad ro w0 V base v (.slice none 0 0) l [] :=
  ⟨h.a, OW.nil G V base, fun _ _ hk => (by cases hk), fun _ _ _ _ hk => (by cases hk), h.below, h.top⟩
/-- The row beside it grows. -/
theorem K2.put2 (h : K2 E G ad ro w0 V base v u l m) (hg : V.grownBy V' u.ownBlock) (ho : OW G V' base u' m') (hw : u'.ownBlock = u.ownBlock ∨ u'.ownBlock = some V.heap.size) : K2 E G ad ro w0 V' base v u' l m' := by
  refine ⟨⟨h.a.own.keep (fun k hk => hg.block k (h.a.own.lt hk).2 (fun e => h.ne k hk e.symm)), fun x hx => (h.a.inn x hx).grown hg (h.nx x hx), h.a.ne⟩, ho, fun k hk hu => ?_, fun x hx hr k hk e => ?_, h.below.grown hg h.top (fun j hj => (h.b.lt hj).1), Nat.le_trans h.top hg.size⟩
  · rcases hw with e | e
    · exact h.ne k hk (by rw [← e]; exact hu)
    · rw [e] at hu; injection hu with hu; have := (h.a.own.lt hk).2; omega
  · rcases hw with f | f
    · exact h.nx x hx hr k (by rw [← f]; exact hk) e
    · obtain ⟨b, hb, _, hlt⟩ := (h.a.inn x hx).lt' hr
      rw [f] at hk; injection hk with hk
      rw [hb] at e; injection e with e
      omega
/-- One more, of that row: the row beside begins anew. -/
theorem K2.put1 {n c : Nat} (h : K2 E G ad ro w0 V base v (.slice A n c) l m) (hA : ad x = A) (hm : ro x = m) (hg : V.grownBy V' v.ownBlock) (ho : OW E V' base v' (l ++ [x])) (hw : v'.ownBlock = v.ownBlock ∨ v'.ownBlock = some V.heap.size) : K2 E G ad ro w0 V' base v' (.slice none 0 0) (l ++ [x]) [] := by
  subst hA; subst hm
  refine ⟨h.a.app h.b.pw (fun hr k hk e => ?_) hg ho hw, OW.nil G V' base, fun _ _ hk => (by cases hk), fun _ _ _ _ hk => (by cases hk), h.below.grown hg h.top (fun j hj => (h.a.own.lt hj).1), Nat.le_trans h.top hg.size⟩
  exact h.ne k hk (by rw [← h.b.blk' hr]; exact e)
/-- One more, of a row that lies apart from both (a clone in new memory, say). -/
theorem K2.put (h : K2 E G ad ro w0 V base v u l m) (hx : PW G V base (ad x) (ro x)) (hne : ro x ≠ [] → ∀ k, v.ownBlock = some k ∨ u.ownBlock = some k → blk (ad x) ≠ some k) (hg : V.grownBy V' v.ownBlock) (ho : OW E V' base v' (l ++ [x])) (hw : v'.ownBlock = v.ownBlock ∨ v'.ownBlock = some V.heap.size) : K2 E G ad ro w0 V' base v' u (l ++ [x]) m := by
  refine ⟨h.a.app hx (fun hr k hk => hne hr k (.inl hk)) hg ho hw, h.b.keep (fun k hk => hg.block k (h.b.lt hk).2 (fun e => h.ne k e.symm hk)), fun k hk hu => ?_, fun y hy hr k hk e => ?_, h.below.grown hg h.top (fun j hj => (h.a.own.lt hj).1), Nat.le_trans h.top hg.size⟩
  · rcases hw with e | e
    · exact h.ne k (by rw [← e]; exact hk) hu
    · rw [e] at hk; injection hk with hk; have := (h.b.lt hu).2; omega
  · rcases List.mem_append.1 hy with hy | hy
    · exact h.nx y hy hr k hk e
    · rcases List.mem_singleton.1 hy with rfl; exact hne hr k (.inr hk) e
theorem KM.of (h : KM E ad ro w N A l) (hb : Below w.heap.size w w') : KM E ad ro w' N A l := ⟨h.out.of hb, fun x hx => (h.inn x hx).of hb, h.ne⟩
theorem KM.mono (h : KM E ad ro w N A l) (hn : base ≤ N) : KM E ad ro w base A l := ⟨h.out.mono hn, fun x hx => (h.inn x hx).elim .inl (fun ⟨b, off, h1, h2, h3⟩ => .inr ⟨b, off, h1, Nat.le_trans hn h2, h3⟩), h.ne⟩
/-- Cell k of the row of row i, and what a store there leaves. -/
theorem KM.at' (h : KM E ad ro w N A l) {i k : Nat} (hx : l[i]? = some x) (hk : k < (ro x).length) : ∃ b off, ad x = some ⟨b, off, none⟩ ∧ N ≤ b ∧ b < w.heap.size ∧ (∃ v, w.cell? ⟨b, off + k, none⟩ = some v) ∧ w.frozen? ⟨b, off + k, none⟩ = false ∧ ∀ u, KM E ad ro (w.setCell ⟨b, off + k, none⟩ u) N A l := by
  have hm := List.mem_of_getElem? hx
  have hr : ro x ≠ [] := fun e => by rw [e] at hk; simp at hk
  obtain ⟨b, off, h1, h2, h3, h4, h5⟩ := (h.inn x hm).at' hk
  refine ⟨b, off, h1, h2, h3, h4, h5, fun u => ⟨h.out.apart (fun _ e => h.ne x hm hr (by rw [e, h1]; rfl)) u, fun y hy => (h.inn y hy).set _ _ _, h.ne⟩⟩
end
end Go.Proofs.Ytmdnjkiciaidiaa.Con
