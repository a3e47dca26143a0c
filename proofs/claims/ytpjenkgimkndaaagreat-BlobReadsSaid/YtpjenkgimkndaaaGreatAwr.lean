/-
  Rows that lie apart from blocks that are turned; a struct's box with one row that grows in it; append as a step of a region that draws.
-/
import Derived.Test.YtpjenkgimkndaaaGreatPws
import Derived.Laws.Rows
namespace Go.Proofs.YtpjenkgimkndaaaGreat.Con
open Go.RowKit Go.Maps

/-- Outside of av nothing is turned. -/
def Kp (w w' : World) (av : Nat → Prop) : Prop := w.heap.size ≤ w'.heap.size ∧ ∀ k, k < w.heap.size → ¬ av k → w'.heap[k]? = w.heap[k]?
section
variable {α : Type}
/-- A row that reads, in none of the blocks av. -/
def AW (E : El α) (w : World) (av : Nat → Prop) (A : Option Addr) (l : List α) : Prop :=
  l = [] ∨ ∃ b off, A = some ⟨b, off, none⟩ ∧ b < w.heap.size ∧ ¬ av b ∧ ∀ i x, l[i]? = some x → ∀ j v, (E.enc x)[j]? = some v → w.cell? ⟨b, off + i * E.k + j, none⟩ = some v
variable {E : El α}
theorem AW.kp {w w' : World} {av av' : Nat → Prop} {A : Option Addr} {l : List α} (h : AW E w av A l) (hk : Kp w w' av) (hav : ∀ k, k < w.heap.size → av' k → av k) : AW E w' av' A l := by
  rcases h with rfl | ⟨b, off, hA, hlt, hn, hc⟩
  · exact .inl rfl
  · exact .inr ⟨b, off, hA, Nat.lt_of_lt_of_le hlt hk.1, fun h => hn (hav b hlt h), fun i x hx j v hv => (World.cell?_of_block (w := w) (hk.2 b hlt hn)).trans (hc i x hx j v hv)⟩
theorem AW.rw' {w : World} {av : Nat → Prop} {A : Option Addr} {l : List α} (h : AW E w av A l) : RW E w w.heap.size A l := by
  rcases h with rfl | ⟨b, off, hA, hlt, hn, hc⟩
  · exact .inl rfl
  · exact .inr ⟨b, off, hA, hlt, hc⟩
theorem PW.aw {w : World} {N : Nat} {av : Nat → Prop} {A : Option Addr} {l : List α} (h : PW E w N A l) (hav : ∀ k, N ≤ k → k < w.heap.size → A.map Addr.block = some k → ¬ av k) : AW E w av A l := by
  rcases h with rfl | ⟨b, off, hA, hN, hlt, hc, _⟩
  · exact .inl rfl
  · exact .inr ⟨b, off, hA, hlt, hav b hN hlt (by rw [hA]; rfl), hc⟩
theorem OW.blk {w : World} {base n c : Nat} {A : Option Addr} {l : List α} (h : OW E w base (.slice A n c) l) {b : Nat} (hb : (Value.slice A n c).ownBlock = some b) : base ≤ b ∧ b < w.heap.size ∧ A.map Addr.block = some b := by
  obtain ⟨A', c', hv, _, h2⟩ := h.shape
  injection hv with e1 e2 e3
  subst e1
  rcases h2 with ⟨rfl, _, _⟩ | ⟨b', cur, rfl, h1, h2, _⟩
  · simp [Value.ownBlock] at hb
  · simp [Value.ownBlock] at hb; subst hb; exact ⟨h1, h2, rfl⟩
theorem OW.far {w : World} {base n c : Nat} {A : Option Addr} {l : List α} (h : OW E w base (.slice A n c) l) {a : Addr} (ha : ∀ b, (Value.slice A n c).ownBlock = some b → b ≠ a.block) (u : Value) : OW E (w.setCell a u) base (.slice A n c) l := by
  refine ⟨h.1, ?_⟩
  rcases h.2 with h2 | ⟨g, cap, cur, h1, h2, h3, h4⟩
  · exact .inl h2
  · refine .inr ⟨g, cap, cur, h1, h2, ?_, h4⟩
    rw [heap_setCell_other _ _ _ _ (ha g (by rw [h1]; rfl))]
    exact h3

/-- The blocks that may be turned: those ahead of N, the box, the row that grows. -/
abbrev Av (N P : Nat) (v : Value) : Nat → Prop := fun b => b < N ∨ b = P ∨ v.ownBlock = some b
def Stab {β : Type} (F : β → World → (Nat → Prop) → Prop) : Prop := ∀ x w w' av av', F x w av → Kp w w' av → (∀ k, k < w.heap.size → av' k → av k) → F x w' av'
/-- A box with a row in it that grows. -/
structure LX (E : El α) (F : List α → World → (Nat → Prop) → Prop) (N P : Nat) (cs : Value → List Value) (w : World) (A : Option Addr) (c : Nat) (l : List α) : Prop where
  ph : N ≤ P
  pl : P < w.heap.size
  box : At w P (cs (.slice A l.length c))
  fz : ∀ o, w.frozen? ⟨P, o, none⟩ = false
  own : OW E w N (.slice A l.length c) l
  ne : ∀ b, (Value.slice A l.length c).ownBlock = some b → b ≠ P
  kept : F l w (Av N P (.slice A l.length c))
variable {F : List α → World → (Nat → Prop) → Prop} {N P : Nat} {cs : Value → List Value}
theorem LX.step {w w' : World} {A : Option Addr} {c : Nat} {l : List α} (h : LX E F N P cs w A c l) (hF : Stab F) (hb : Below w.heap.size w w') : LX E F N P cs w' A c l :=
  ⟨h.ph, Nat.lt_of_lt_of_le h.pl hb.size, h.box.of hb h.pl, fun o => (hb.frozen (p := ⟨P, o, none⟩) h.pl).trans (h.fz o), h.own.of hb, h.ne, hF _ _ _ _ _ h.kept ⟨hb.size, fun k hk _ => hb.block k hk⟩ (fun _ _ h => h)⟩
/-- Behind the append: the box is as it was. -/
theorem LX.mid {w w3 : World} {A : Option Addr} {c : Nat} {l : List α} (h : LX E F N P cs w A c l) (hg : w.grownBy w3 (Value.slice A l.length c).ownBlock) : At w3 P (cs (.slice A l.length c)) ∧ (∀ o, w3.frozen? ⟨P, o, none⟩ = false) ∧ P < w3.heap.size := by
  have hp : w3.heap[P]? = w.heap[P]? := hg.block P h.pl (fun e => h.ne P e.symm rfl)
  refine ⟨fun j v hv => (World.cell?_of_block (w := w) hp).trans (h.box j v hv), fun o => (World.frozen?_of_block (w := w) hp).trans (h.fz o), Nat.lt_of_lt_of_le h.pl hg.size⟩
theorem LX.put {w w3 : World} {A A' : Option Addr} {c c' nl : Nat} {l lm : List α} {x : α} {Fr : α → World → (Nat → Prop) → Prop} (h : LX E F N P cs w A c l) (hF : Stab F) (hR : Stab Fr) (hadd : ∀ l x w av, F l w av → Fr x w av → F (l ++ [x]) w av)
    {avf : Nat → Prop} (hfr : Fr x w avf) (hav2 : ∀ k, Av N P (.slice A l.length c) k → avf k)
    (hg : w.grownBy w3 (Value.slice A l.length c).ownBlock) (hlm : lm = l ++ [x]) (hnl : lm.length = nl) (ho : OW E w3 N (.slice A' nl c') lm) (hw : (Value.slice A' nl c').ownBlock = (Value.slice A l.length c).ownBlock ∨ (Value.slice A' nl c').ownBlock = some w.heap.size)
    (i : Nat) (hc1 : ∀ v, (cs v)[i]? = some v) (hc2 : ∀ u v j, j ≠ i → (cs v)[j]? = (cs u)[j]?) : LX E F N P cs (w3.setCell ⟨P, i, none⟩ (.slice A' nl c')) A' c' lm := by
  subst hnl; subst hlm
  obtain ⟨m1, m2, m3⟩ := h.mid hg
  have hne' : ∀ b, (Value.slice A' (l ++ [x]).length c').ownBlock = some b → b ≠ P := by
    intro b hb
    rcases hw with e | e
    · exact h.ne b (by rw [← e]; exact hb)
    · rw [e] at hb; injection hb with hb; have := h.pl; omega
  have kk : ∀ av : Nat → Prop, (∀ k, Av N P (.slice A l.length c) k → av k) → Kp w (w3.setCell ⟨P, i, none⟩ (.slice A' (l ++ [x]).length c')) av := by
    intro av hav
    refine ⟨by simpa using hg.size, fun k hk hn => ?_⟩
    have hkP : k ≠ P := fun e => hn (hav k (.inr (.inl e)))
    rw [heap_setCell_other _ _ _ _ (by simpa using hkP)]
    exact hg.block k hk (fun e => hn (hav k (.inr (.inr e.symm))))
  have ka : ∀ k, k < w.heap.size → Av N P (.slice A' (l ++ [x]).length c') k → Av N P (.slice A l.length c) k := by
    intro k hk hv
    rcases hv with hv | hv | hv
    · exact .inl hv
    · exact .inr (.inl hv)
    · rcases hw with e | e
      · exact .inr (.inr (by rw [← e]; exact hv))
      · rw [e] at hv; injection hv with hv; omega
  refine ⟨h.ph, by simpa using m3, fun j v hv => ?_, fun o => by rw [World.frozen?_setCell]; exact m2 o, ho.far (fun b hb => hne' b hb) _, hne', hadd _ _ _ _ (hF _ _ _ _ _ h.kept (kk _ (fun _ h => h)) ka) (hR _ _ _ _ _ hfr (kk _ hav2) (fun k hk hv => hav2 k (ka k hk hv)))⟩
  by_cases hj : j = i
  · subst hj
    rw [hc1] at hv
    injection hv with hv
    subst hv
    exact World.cell?_setCell_same _ _ _ (m1 j _ (hc1 _))
  · rw [World.cell?_setCell_other _ _ _ _ (fun e => hj (by injection e with _ e; exact e.symm))]
    exact m1 j v (by rw [hc2 (.slice A' (l ++ [x]).length c') _ j hj]; exact hv)
end

/-- Append as a step of a region that draws. -/
theorem step_app {α : Type} (E : El α) {w : World} {ops : Array Oper} {o : Oper} {a : Act} {K : Act → World → Prop} {Q : Exit → Act → World → Prop} {Ep : Prop} (hgd : o.guard = none) (t : TypeId) (ht : E.t = t) (s x : Operand)
    (ho : o.op = .call { callee := .builtin .append, args := #[s, x], argTypes := #[t, t] })
    (base B : Nat) (v : Value) (l m : List α) (A : Option Addr) (c n : Nat) (hn : m.length = n) (hs : a.eval s = v) (hx : a.eval x = .slice A n c)
    (hown : OW E w base v l) (hr : RW E w B A m) (hlen : l.length + m.length ≤ 1000000) (hbase : base ≤ w.heap.size)
    (h : ∀ A' c' w' lm nl, lm = l ++ m → lm.length = nl → OW E w' base (.slice A' nl c') lm → w.grownBy w' v.ownBlock → ((Value.slice A' nl c').ownBlock = v.ownBlock ∨ (Value.slice A' nl c').ownBlock = some w.heap.size) → K (a.put o.dst (.slice A' nl c')) w') :
    if Region.wanted o (yielded ops a.tmps) = true then Oper.wp Tryz.prog o a w K Q else Ep := by
  subst ht; subst hn
  have hw : Region.wanted o (yielded ops a.tmps) = true := by simp [Region.wanted, hgd]
  rw [if_pos hw]
  obtain ⟨A', c', w', hrun, h2, h3, h4⟩ := run_app E w base B o.type v l m A c hown hr hlen hbase
  unfold Oper.wp execOp
  simp only [ho, resolve, invoke, builtin, Sem.run_bind, Sem.run_pure, Result.andThen_ok, List.map_toArray, List.map_cons, List.map_nil, hs, hx, hrun]
  exact h A' c' w' (l ++ m) _ rfl rfl h2 h3 h4
end Go.Proofs.YtpjenkgimkndaaaGreat.Con
