/-
  Laws for the builtins max and min of two integers at a step of a walk: the answer under a name, no ways parted.
-/
import Derived.Test.YtmhnkjjcipcjlaaCon
import Derived.Tactics
namespace Go.Proofs.Ytmhnkjjcipcjlaa.Con
open Go.RowKit

/-- The greater of two, the lesser of two. -/
def mx (a b : Int) : Int := if a ≤ b then b else a
def mn (a b : Int) : Int := if a ≤ b then a else b
theorem run_max (P : Program) (t : TypeId) (u v : Int) (w : World) : (Builtin.max_ #[3, 3] t #[.int .i64 u, .int .i64 v]).run P w = .ok (.int .i64 (mx u v)) w := by
  unfold mx
  by_cases h : u ≤ v
  · rw [if_pos h]
    by_cases h2 : v > u
    · simp [Builtin.max_, Builtin.max2, h2]
    · have : u = v := by omega
      subst this
      simp [Builtin.max_, Builtin.max2]
  · rw [if_neg h]
    have h2 : ¬ v > u := by omega
    simp only [Builtin.max_, Builtin.max2, List.foldlM, h2, if_false]
    rfl
theorem run_min (P : Program) (t : TypeId) (u v : Int) (w : World) : (Builtin.min_ #[3, 3] t #[.int .i64 u, .int .i64 v]).run P w = .ok (.int .i64 (mn u v)) w := by
  unfold mn
  by_cases h : u ≤ v
  · rw [if_pos h]
    have h2 : ¬ v < u := by omega
    simp only [Builtin.min_, Builtin.min2, List.foldlM, h2, if_false]
    rfl
  · rw [if_neg h]
    have h2 : v < u := by omega
    simp only [Builtin.min_, Builtin.min2, List.foldlM, h2, if_true]
    rfl
section
variable {P : Program} {ops : Array Oper} {rest : List Oper} {o : Oper} {a : Act} {Q : Exit → Act → World → Prop} {w : World}
theorem wpList_max (hgd : o.guard = none) (x y : Operand) (u v m : Int) (ho : o.op = .call { callee := .builtin .max, args := #[x, y], argTypes := #[3, 3] }) (hx : a.eval x = .int .i64 u) (hy : a.eval y = .int .i64 v) (hm : mx u v = m)
    (h : wpList P ops Q rest (a.put o.dst (.int .i64 m)) w) : wpList P ops Q (o :: rest) a w :=
  wpList_plain hgd fun _ hK => by
    unfold Oper.wp execOp
    simp only [ho, resolve, invoke, builtin, Sem.run_bind, Sem.run_pure, Result.andThen_ok, List.map_toArray, List.map_cons, List.map_nil, hx, hy, run_max]
    rw [hm]
    exact hK _ _ h
theorem wpList_min (hgd : o.guard = none) (x y : Operand) (u v m : Int) (ho : o.op = .call { callee := .builtin .min, args := #[x, y], argTypes := #[3, 3] }) (hx : a.eval x = .int .i64 u) (hy : a.eval y = .int .i64 v) (hm : mn u v = m)
    (h : wpList P ops Q rest (a.put o.dst (.int .i64 m)) w) : wpList P ops Q (o :: rest) a w :=
  wpList_plain hgd fun _ hK => by
    unfold Oper.wp execOp
    simp only [ho, resolve, invoke, builtin, Sem.run_bind, Sem.run_pure, Result.andThen_ok, List.map_toArray, List.map_cons, List.map_nil, hx, hy, run_min]
    rw [hm]
    exact hK _ _ h
end
end Go.Proofs.Ytmhnkjjcipcjlaa.Con
