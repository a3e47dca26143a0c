/-
  append of loads where the operation is guarded, and its guard says yes.
-/
import Derived.Test.YtcefkjeoknaijaaSam
namespace Go.Proofs.Ytcefkjeoknaijaa.Con
open Go.RowKit Mth Mem

theorem wpList_yes {P : Program} {ops : Array Oper} {Q : Exit → Act → World → Prop} {a : Act} {w : World} {rest : List Oper} {o : Oper} (hg : Region.wanted o (yielded ops a.tmps) = true)
    (h : ∀ K : Act → World → Prop, (∀ a w, wpList P ops Q rest a w → K a w) → o.wp P a w K Q) : wpList P ops Q (o :: rest) a w :=
  wpList_step fun K hK => by rw [if_pos hg]; exact h K hK

theorem wpList_appG {w : World} {ops : Array Oper} {rest : List Oper} {o : Oper} {a : Act} {Q : Exit → Act → World → Prop} (hgd : Region.wanted o (yielded ops a.tmps) = true) (s x : Operand)
    (ho : o.op = .call { callee := .builtin .append, args := #[s, x], argTypes := #[22, 22] })
    (base : Nat) (f : Option Nat) (A0 : Option Addr) (c0 : Nat) (L M : List (List Int)) (A : Option Addr) (c : Nat) (hs : a.eval s = .slice A0 L.length c0) (hx : a.eval x = .slice A M.length c)
    (hown : Rows w base f A0 c0 L) (hr : Rows w base f A c M) (hlen : (L.length : Int) + M.length ≤ 1000000) (hbase : base ≤ w.heap.size) (hf : ∀ k, f = some k → k < w.heap.size)
    (h : ∀ A' c' w' LM, Hid (LM = L ++ M) → Hid (Rows w' base f A' c' LM) → Hid (Step w w' (blk A0) A') → wpList Try.prog ops Q rest (a.put o.dst (.slice A' LM.length c')) w') :
    wpList Try.prog ops Q (o :: rest) a w := by
  refine wpList_yes hgd fun Kk hK => ?_
  obtain ⟨ys, hr1, hr2⟩ := RdV.of_rows hr
  obtain ⟨A', c', w', hrun, h2, h3⟩ := run_appL w base f o.type A0 c0 L M ys A M.length c rfl hown hr1 hr2 (by omega) hbase hf
  unfold Oper.wp execOp
  simp only [ho, resolve, invoke, builtin, Sem.run_bind, Sem.run_pure, Result.andThen_ok, List.map_toArray, List.map_cons, List.map_nil, hs, hx, hrun]
  exact hK _ _ (h A' c' w' (L ++ M) rfl h2 h3)
end Go.Proofs.Ytcefkjeoknaijaa.Con
