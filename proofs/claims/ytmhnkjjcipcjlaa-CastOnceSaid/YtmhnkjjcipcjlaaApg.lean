/-
  Append, as a step under a guard that says yes; max as an operation of a region that draws; what an append leaves of boxes.
-/
import Derived.Test.YtmhnkjjcipcjlaaElm
import Derived.Test.YtmhnkjjcipcjlaaBmx
import Derived.Deep.RegionHeld3
namespace Go.Proofs.Ytmhnkjjcipcjlaa.Con
open Go.RowKit Go.Maps

theorem wpList_yes {P : Program} {ops : Array Oper} {Q : Exit → Act → World → Prop} {a : Act} {w : World} {rest : List Oper} {o : Oper} (hg : Region.wanted o (yielded ops a.tmps) = true)
    (h : ∀ K : Act → World → Prop, (∀ a w, wpList P ops Q rest a w → K a w) → o.wp P a w K Q) : wpList P ops Q (o :: rest) a w :=
  wpList_step fun K hK => by rw [if_pos hg]; exact h K hK
theorem wpList_appG {α : Type} (E : El α) {w : World} {ops : Array Oper} {rest : List Oper} {o : Oper} {a : Act} {Q : Exit → Act → World → Prop} (hgd : Region.wanted o (yielded ops a.tmps) = true) (t : TypeId) (ht : E.t = t) (s x : Operand)
    (ho : o.op = .call { callee := .builtin .append, args := #[s, x], argTypes := #[t, t] })
    (base B : Nat) (v : Value) (l m : List α) (A : Option Addr) (c n : Nat) (hn : m.length = n) (hs : a.eval s = v) (hx : a.eval x = .slice A n c)
    (hown : OW E w base v l) (hr : RW E w B A m) (hlen : l.length + m.length ≤ 1000000) (hbase : base ≤ w.heap.size)
    (h : ∀ A' c' w' lm, Hid (lm = l ++ m) → Hid (OW E w' base (.slice A' lm.length c') lm) → Hid (Below base w w') → wpList Try.prog ops Q rest (a.put o.dst (.slice A' lm.length c')) w') :
    wpList Try.prog ops Q (o :: rest) a w := by
  subst ht; subst hn
  refine wpList_yes hgd fun K hK => ?_
  obtain ⟨A', c', w', hrun, h2, h3, h4⟩ := run_app E w base B o.type v l m A c hown hr hlen hbase
  unfold Oper.wp execOp
  simp only [ho, resolve, invoke, builtin, Sem.run_bind, Sem.run_pure, Result.andThen_ok, List.map_toArray, List.map_cons, List.map_nil, hs, hx, hrun]
  exact hK _ _ (h A' c' w' (l ++ m) (Lib.hid rfl) (Lib.hid h2) (Lib.hid ((Below.refl base w).grown h3 hbase (fun k hk => (hown.lt hk).1))))
theorem exec_max {a : Act} {o : Oper} {l r : Operand} (ho : o.op = .call { callee := .builtin .max, args := #[l, r], argTypes := #[3, 3] }) {x y m : Int} (hx : a.eval l = .int .i64 x) (hy : a.eval r = .int .i64 y) {w : World} (hm : mx x y = m) :
    Sem.run Try.prog (execOp a.eval o) w = .ok (.value (.int .i64 m)) w := by
  subst hm
  simp [execOp, ho, resolve, invoke, builtin, hx, hy, run_max]
end Go.Proofs.Ytmhnkjjcipcjlaa.Con
