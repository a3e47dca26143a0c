/-
  Ranges over the maps of an index: a step over the cells, and a step over the units of a cell; what stays while a loop goes round.
-/
import Derived.Test.YtehllnbpianpfaaSmc
import Derived.Maps.RangeWalk
import Derived.Sort.OwnSorted
namespace Go.Proofs.Ytehllnbpianpfaa.Con
open Go.RowKit Cll Go.Maps

section
variable {ops : Array Oper} {rest : List Oper} {o : Oper} {a : Act} {Q : Exit → Act → World → Prop}
/-- A step over the cells. -/
theorem next_cell (w : World) (hg : o.guard = none) (it : Operand) (hop : o.op = Op.next it false) {cb rb n : Nat} {Dc : DataW Unit} {left : Lit → Bool} {cnt : Nat}
    (hkeys : ∀ kl d, look Dc kl = some d → ∃ c r, kl = ck c r ∧ Sd c ∧ Sd r) (hit : a.eval it = .pointer (some ⟨rb, 0, none⟩)) (h : w.ranges Try.prog 54 Rm cb rb n Dc left cnt)
    (hDone : (∀ kl, left kl = false) → wpList Try.prog ops Q rest (a.put o.dst (.tuple #[.bool false])) w)
    (hMore : ∀ (c r : Int) (b : Nat) (w' : World) (cnt' : Nat), Sd c → Sd r → left (ck c r) = true → look Dc (ck c r) = some (bl b) → w'.ranges Try.prog 54 Rm cb rb n Dc (fun z => left z && !z.sameKey (ck c r)) cnt' → cnt' < cnt →
      w.grownBy w' (some rb) → w'.heap.size = w.heap.size → (Instr.entry (.pointer (some ⟨rb, 0, none⟩))).run Try.prog w' = .ok (.tuple #[pv c r, .map (some b)]) w' → wpList Try.prog ops Q rest (a.put o.dst (.tuple #[.bool true, pv c r, .map (some b)])) w') :
    wpList Try.prog ops Q (o :: rest) a w := by
  refine wpList_plain hg fun K' hK' => ?_
  unfold Oper.wp
  rcases h.next kCell o.type with ⟨h0, hl, hrun⟩ | ⟨ky, v, kl, y, w', cnt', hkey, hlk, hv, hat, hrun, hrg, hlt, hgr, hsz, hen⟩
  · simp [execOp, hop, hit, hrun, Result.andThen]
    exact hK' _ _ (hDone hl)
  · have hlook := look_of hat
    obtain ⟨c, r, rfl, hc, hr⟩ := hkeys kl _ hlook
    obtain ⟨b, rfl, rfl⟩ := rm_inv hv
    obtain rfl : ky = pv c r := kCell.inj hkey (ck_of hc.fits hr.fits)
    simp [execOp, hop, hit, hrun, Result.andThen]
    exact hK' _ _ (hMore c r b w' cnt' hc hr hlk hlook hrg hlt hgr hsz hen)
/-- A step over the units of a cell. -/
theorem next_unit (w : World) (hg : o.guard = none) (it : Operand) (hop : o.op = Op.next it false) {ib rb n : Nat} {D : DataW Unit} {L : List Un} {c r : Int} {left : Lit → Bool} {cnt : Nat}
    (hat' : ∀ k, look D (key k) = (lk L k).bind (fun t => if t.x / 16 = c ∧ t.y / 16 = r then some (td t.x t.y) else none)) (hit : a.eval it = .pointer (some ⟨rb, 0, none⟩)) (h : w.ranges Try.prog 3 Rt ib rb n D left cnt)
    (hDone : (∀ kl, left kl = false) → wpList Try.prog ops Q rest (a.put o.dst (.tuple #[.bool false])) w)
    (hMore : ∀ (t : Un) (w' : World) (cnt' : Nat), t ∈ L → t.x / 16 = c → t.y / 16 = r → left (key t.id) = true → w'.ranges Try.prog 3 Rt ib rb n D (fun z => left z && !z.sameKey (key t.id)) cnt' → cnt' < cnt →
      w.grownBy w' (some rb) → w'.heap.size = w.heap.size → (Instr.entry (.pointer (some ⟨rb, 0, none⟩))).run Try.prog w' = .ok (.tuple #[.int .i64 t.id, pv t.x t.y]) w' → wpList Try.prog ops Q rest (a.put o.dst (.tuple #[.bool true, .int .i64 t.id, pv t.x t.y])) w') :
    wpList Try.prog ops Q (o :: rest) a w := by
  refine wpList_plain hg fun K' hK' => ?_
  unfold Oper.wp
  rcases h.next kInt o.type with ⟨h0, hl, hrun⟩ | ⟨ky, v, kl, y, w', cnt', hkey, hlk, hv, hat, hrun, hrg, hlt, hgr, hsz, hen⟩
  · simp [execOp, hop, hit, hrun, Result.andThen]
    exact hK' _ _ (hDone hl)
  · have hlook := look_of hat
    obtain ⟨k, rfl, rfl, _⟩ := Maps.keyOf_int_inv Try.underlying3 hkey
    obtain ⟨x, z, rfl, rfl⟩ := rt_inv hv
    have e := (hat' k).symm.trans hlook
    cases hk : lk L k with
    | none => rw [hk] at e; cases e
    | some t =>
      rw [hk] at e
      obtain ⟨h1, h2⟩ := lk_some hk
      subst h2
      by_cases hcr : t.x / 16 = c ∧ t.y / 16 = r
      · have e2 : td t.x t.y = td x z := by simpa [hcr] using e
        obtain ⟨rfl, rfl⟩ := td_inj e2
        simp [execOp, hop, hit, hrun, Result.andThen]
        exact hK' _ _ (hMore t w' cnt' h1 hcr.1 hcr.2 hlk hrg hlt hgr hsz hen)
      · simp [hcr] at e
end

/-! ### what stays while the loops go round -/
/-- The numbers' own key. -/
def ckU (t : Un) : Lit := ck (t.x / 16) (t.y / 16)
/-- Behind a step: the cell that has come is no longer to come. -/
theorem left_same {left : Lit → Bool} {kl : Lit} (hk : WideAt.IsKeyLit kl) : (left kl && !kl.sameKey kl) = false := by rw [WideAt.sameKey_self hk]; simp
theorem left_ne {left : Lit → Bool} {kl k : Lit} (hk : k ≠ kl) : (left k && !k.sameKey kl) = left k := by rw [sameKey_ne hk]; simp
/-- The box of the tile that is asked for, and the loop over the cells. -/
structure Out (w V : World) (N cb : Nat) (Dc : DataW Unit) (px py : Int) (left : Lit → Bool) (cnt : Nat) : Prop where
  rg : V.ranges Try.prog 54 Rm cb (w.heap.size + 1) N Dc left cnt
  bel : Below w.heap.size w V
  box : V.heap[w.heap.size]? = some (.cells #[.int .i64 px, .int .i64 py] 32 (0, 0))
section
variable {w V V' : World} {N cb : Nat} {Dc : DataW Unit} {px py : Int} {left : Lit → Bool} {cnt : Nat}
theorem Out.c0 (h : Out w V N cb Dc px py left cnt) : V.cell? ⟨w.heap.size, 0, none⟩ = some (.int .i64 px) := (cell_of_row V _ 0 _ 32 (0, 0) h.box).trans rfl
theorem Out.c1 (h : Out w V N cb Dc px py left cnt) : V.cell? ⟨w.heap.size, 1, none⟩ = some (.int .i64 py) := (cell_of_row V _ 1 _ 32 (0, 0) h.box).trans rfl
theorem Out.lt (h : Out w V N cb Dc px py left cnt) : w.heap.size + 2 ≤ V.heap.size := h.rg.lt
theorem grown_of {W W' : World} (h : Below W.heap.size W W') : W.grownBy W' none := ⟨h.os, h.tape, h.output, h.size, fun k hk _ => h.block k hk⟩
theorem Out.step (h : Out w V N cb Dc px py left cnt) (hb : Below V.heap.size V V') : Out w V' N cb Dc px py left cnt :=
  ⟨h.rg.kept (grown_of hb) (by simp) (by simp), h.bel.trans (hb.mono h.bel.size), (hb.block _ (by have := h.lt; omega)).trans h.box⟩
/-- A block behind the loop's own turns. -/
theorem Out.turn (h : Out w V N cb Dc px py left cnt) (hcb : cb < w.heap.size) {q : Option Nat} (hg : V.grownBy V' q) (hq : ∀ k, q = some k → w.heap.size + 2 ≤ k) : Out w V' N cb Dc px py left cnt :=
  ⟨h.rg.kept hg (fun e => by have := hq cb e.symm; omega) (fun e => by have := hq _ e.symm; omega), h.bel.grown hg h.bel.size (fun k hk => by have := hq k hk; omega), (hg.block _ (by have := h.lt; omega) (fun e => by have := hq _ e.symm; omega)).trans h.box⟩
/-- The loop's own step. -/
theorem Out.next {left' : Lit → Bool} {cnt' : Nat} (h : Out w V N cb Dc px py left cnt) (hg : V.grownBy V' (some (w.heap.size + 1))) (hr : V'.ranges Try.prog 54 Rm cb (w.heap.size + 1) N Dc left' cnt') : Out w V' N cb Dc px py left' cnt' :=
  ⟨hr, h.bel.grown hg h.bel.size (fun k hk => by injection hk with hk; omega), (hg.block _ (by have := h.lt; omega) (fun e => by injection e with e; omega)).trans h.box⟩
end
theorem iter_at {w : World} {k : TypeId} {R : Value → Option (DataW Unit × List MemPlace)} {b r n : Nat} {D : DataW Unit} {left : Lit → Bool} {cnt : Nat} (h : w.ranges Try.prog k R b r n D left cnt) : ∃ m s se c, w.heap[r]? = some (.mapIter m s se c) := by
  obtain ⟨es, clock, since, seen, c0, _, _, _, _, hr, _⟩ := h
  exact ⟨_, _, _, _, hr⟩
end Go.Proofs.Ytehllnbpianpfaa.Con
