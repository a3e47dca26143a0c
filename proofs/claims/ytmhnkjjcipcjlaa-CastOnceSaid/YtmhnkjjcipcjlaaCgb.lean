/-
  A Casting's box, a cast's box: how they stand, what a store leaves.
-/
import Derived.Test.YtmhnkjjcipcjlaaCgk
import Derived.BigQuiet
import Derived.Handy
import Derived.Deep.QuietTactic
import Derived.Deep.LoopGhost
namespace Go.Proofs.Ytmhnkjjcipcjlaa.Con
open Go.RowKit Go.Maps
set_option linter.unusedVariables false

theorem cellOf' {w : World} {b : Nat} {cs : Array Value} {t : TypeId} {z : Nat × Nat} (h : w.heap[b]? = some (.cells cs t z)) (o : Nat) : w.cell? ⟨b, o, none⟩ = cs[o]? := by simp [World.cell?, h]
theorem lt_of_block {w : World} {b : Nat} {x : Obj} (h : w.heap[b]? = some x) : b < w.heap.size := (Array.getElem?_eq_some_iff.1 h).1
theorem frozOf' {w : World} {b : Nat} {cs : Array Value} {t : TypeId} (h : w.heap[b]? = some (.cells cs t (0, 0))) (o : Nat) : w.frozen? ⟨b, o, none⟩ = false := by simp [World.frozen?, h]
theorem below_step {a b c : World} (h : Below a.heap.size a b) (k : Below b.heap.size b c) : Below a.heap.size a c := h.trans (k.mono h.size)
theorem below_box (w : World) (o : Obj) : Below w.heap.size w (w.alloc o) := (Below.refl _ w).alloc (Nat.le_refl _) o
theorem ret_bool {a b : Bool} (h : a = b) : Ending.returned (.bool a) = .returned (.bool b) := by rw [h]
/-- A cast's box stands in w. -/
def Cx (w : World) (b : Nat) (c : Ca) : Prop := w.heap[b]? = some (oCa c)
theorem Cx.lt {w : World} {b : Nat} {c : Ca} (h : Cx w b c) : b < w.heap.size := lt_of_block h
theorem Cx.of {w w' : World} {b B : Nat} {c : Ca} (h : Cx w b c) (hb : Below B w w') (hB : b < B) : Cx w' b c := (hb.block b hB).trans h
theorem Cx.new (w : World) (c : Ca) : Cx (w.alloc (oCa c)) w.heap.size c := heap_alloc_new w _
theorem Cx.at {w : World} {b : Nat} {c : Ca} (h : Cx w b c) : w.cell? ⟨b, 0, none⟩ = some (.int .i64 c.ability) ∧ w.cell? ⟨b, 1, none⟩ = some (.int .i64 c.target) ∧ w.cell? ⟨b, 2, none⟩ = some (.int .i64 c.since) ∧ w.cell? ⟨b, 3, none⟩ = some (.int .i64 c.untl) :=
  ⟨cellOf' h 0, cellOf' h 1, cellOf' h 2, cellOf' h 3⟩
/-- A Casting's box stands in w. -/
def Gx (w : World) (b : Nat) (s : Cg) : Prop := w.heap[b]? = some (oCg s)
theorem Gx.lt {w : World} {b : Nat} {s : Cg} (h : Gx w b s) : b < w.heap.size := lt_of_block h
theorem Gx.of {w w' : World} {b B : Nat} {s : Cg} (h : Gx w b s) (hb : Below B w w') (hB : b < B) : Gx w' b s := (hb.block b hB).trans h
theorem Gx.alloc {w : World} {b : Nat} {s : Cg} (h : Gx w b s) (o : Obj) : Gx (w.alloc o) b s := (Below.heap_alloc _ _ _ h.lt).trans h
theorem Gx.new (w : World) (s : Cg) : Gx (w.alloc (oCg s)) w.heap.size s := heap_alloc_new w _
theorem Gx.other {w : World} {b r : Nat} {s : Cg} (h : Gx w b s) (hne : b ≠ r) (v : Value) (o : Nat) : Gx (w.setCell ⟨r, o, none⟩ v) b s := (heap_setCell_other w ⟨r, o, none⟩ b v hne).trans h
theorem Gx.at {w : World} {b : Nat} {s : Cg} (h : Gx w b s) : w.cell? ⟨b, 0, none⟩ = some (.int .i64 s.now.ability) ∧ w.cell? ⟨b, 1, none⟩ = some (.int .i64 s.now.target) ∧ w.cell? ⟨b, 2, none⟩ = some (.int .i64 s.now.since) ∧ w.cell? ⟨b, 3, none⟩ = some (.int .i64 s.now.untl) ∧ w.cell? ⟨b, 4, none⟩ = some (.int .i64 s.next.ability) ∧ w.cell? ⟨b, 5, none⟩ = some (.int .i64 s.next.target) ∧ w.cell? ⟨b, 6, none⟩ = some (.int .i64 s.next.since) ∧ w.cell? ⟨b, 7, none⟩ = some (.int .i64 s.next.untl) ∧ w.cell? ⟨b, 8, none⟩ = some (.int .i64 s.wait) :=
  ⟨cellOf' h 0, cellOf' h 1, cellOf' h 2, cellOf' h 3, cellOf' h 4, cellOf' h 5, cellOf' h 6, cellOf' h 7, cellOf' h 8⟩
theorem Gx.set0 {w : World} {b : Nat} {s : Cg} (h : Gx w b s) (n : Int) : Gx (w.setCell ⟨b, 0, none⟩ (.int .i64 n)) b { s with now := { s.now with ability := n } } := heap_setCell_same w b 0 _ 27 _ h
theorem Gx.set1 {w : World} {b : Nat} {s : Cg} (h : Gx w b s) (n : Int) : Gx (w.setCell ⟨b, 1, none⟩ (.int .i64 n)) b { s with now := { s.now with target := n } } := heap_setCell_same w b 1 _ 27 _ h
theorem Gx.set2 {w : World} {b : Nat} {s : Cg} (h : Gx w b s) (n : Int) : Gx (w.setCell ⟨b, 2, none⟩ (.int .i64 n)) b { s with now := { s.now with since := n } } := heap_setCell_same w b 2 _ 27 _ h
theorem Gx.set3 {w : World} {b : Nat} {s : Cg} (h : Gx w b s) (n : Int) : Gx (w.setCell ⟨b, 3, none⟩ (.int .i64 n)) b { s with now := { s.now with untl := n } } := heap_setCell_same w b 3 _ 27 _ h
theorem Gx.set4 {w : World} {b : Nat} {s : Cg} (h : Gx w b s) (n : Int) : Gx (w.setCell ⟨b, 4, none⟩ (.int .i64 n)) b { s with next := { s.next with ability := n } } := heap_setCell_same w b 4 _ 27 _ h
theorem Gx.set5 {w : World} {b : Nat} {s : Cg} (h : Gx w b s) (n : Int) : Gx (w.setCell ⟨b, 5, none⟩ (.int .i64 n)) b { s with next := { s.next with target := n } } := heap_setCell_same w b 5 _ 27 _ h
theorem Gx.set6 {w : World} {b : Nat} {s : Cg} (h : Gx w b s) (n : Int) : Gx (w.setCell ⟨b, 6, none⟩ (.int .i64 n)) b { s with next := { s.next with since := n } } := heap_setCell_same w b 6 _ 27 _ h
theorem Gx.set7 {w : World} {b : Nat} {s : Cg} (h : Gx w b s) (n : Int) : Gx (w.setCell ⟨b, 7, none⟩ (.int .i64 n)) b { s with next := { s.next with untl := n } } := heap_setCell_same w b 7 _ 27 _ h
theorem Gx.set8 {w : World} {b : Nat} {s : Cg} (h : Gx w b s) (n : Int) : Gx (w.setCell ⟨b, 8, none⟩ (.int .i64 n)) b { s with wait := n } := heap_setCell_same w b 8 _ 27 _ h
/-- The first cast written. -/
abbrev wrN (w : World) (b : Nat) (c : Ca) : World := (((w.setCell ⟨b, 0, none⟩ (.int .i64 c.ability)).setCell ⟨b, 1, none⟩ (.int .i64 c.target)).setCell ⟨b, 2, none⟩ (.int .i64 c.since)).setCell ⟨b, 3, none⟩ (.int .i64 c.untl)
theorem Gx.putN {w : World} {b : Nat} {s : Cg} (h : Gx w b s) (c : Ca) : Gx (wrN w b c) b { s with now := c } := (((h.set0 c.ability).set1 c.target).set2 c.since).set3 c.untl
theorem Gx.putNOther {w : World} {b r : Nat} {s : Cg} (h : Gx w b s) (hne : b ≠ r) (c : Ca) : Gx (wrN w r c) b s := (((h.other hne _ 0).other hne _ 1).other hne _ 2).other hne _ 3
theorem below_putN {B r : Nat} {a w : World} (h : Below B a w) (hr : B ≤ r) (c : Ca) : Below B a (wrN w r c) :=
  (((h.setCell (p := ⟨r, 0, none⟩) hr _).setCell (p := ⟨r, 1, none⟩) hr _).setCell (p := ⟨r, 2, none⟩) hr _).setCell (p := ⟨r, 3, none⟩) hr _
/-- The second cast written. -/
abbrev wrX (w : World) (b : Nat) (c : Ca) : World := (((w.setCell ⟨b, 4, none⟩ (.int .i64 c.ability)).setCell ⟨b, 5, none⟩ (.int .i64 c.target)).setCell ⟨b, 6, none⟩ (.int .i64 c.since)).setCell ⟨b, 7, none⟩ (.int .i64 c.untl)
theorem Gx.putX {w : World} {b : Nat} {s : Cg} (h : Gx w b s) (c : Ca) : Gx (wrX w b c) b { s with next := c } := (((h.set4 c.ability).set5 c.target).set6 c.since).set7 c.untl
theorem Gx.putXOther {w : World} {b r : Nat} {s : Cg} (h : Gx w b s) (hne : b ≠ r) (c : Ca) : Gx (wrX w r c) b s := (((h.other hne _ 4).other hne _ 5).other hne _ 6).other hne _ 7
theorem below_putX {B r : Nat} {a w : World} (h : Below B a w) (hr : B ≤ r) (c : Ca) : Below B a (wrX w r c) :=
  (((h.setCell (p := ⟨r, 4, none⟩) hr _).setCell (p := ⟨r, 5, none⟩) hr _).setCell (p := ⟨r, 6, none⟩) hr _).setCell (p := ⟨r, 7, none⟩) hr _
/-- All nine cells written. -/
abbrev wrG (w : World) (b : Nat) (v : Cg) : World := ((((((((w.setCell ⟨b, 0, none⟩ (.int .i64 v.now.ability)).setCell ⟨b, 1, none⟩ (.int .i64 v.now.target)).setCell ⟨b, 2, none⟩ (.int .i64 v.now.since)).setCell ⟨b, 3, none⟩ (.int .i64 v.now.untl)).setCell ⟨b, 4, none⟩ (.int .i64 v.next.ability)).setCell ⟨b, 5, none⟩ (.int .i64 v.next.target)).setCell ⟨b, 6, none⟩ (.int .i64 v.next.since)).setCell ⟨b, 7, none⟩ (.int .i64 v.next.untl)).setCell ⟨b, 8, none⟩ (.int .i64 v.wait)
theorem Gx.putG {w : World} {b : Nat} {s : Cg} (h : Gx w b s) (v : Cg) : Gx (wrG w b v) b v := ((((((((h.set0 v.now.ability).set1 v.now.target).set2 v.now.since).set3 v.now.untl).set4 v.next.ability).set5 v.next.target).set6 v.next.since).set7 v.next.untl).set8 v.wait
theorem Gx.putGOther {w : World} {b r : Nat} {s : Cg} (h : Gx w b s) (hne : b ≠ r) (v : Cg) : Gx (wrG w r v) b s := ((((((((h.other hne _ 0).other hne _ 1).other hne _ 2).other hne _ 3).other hne _ 4).other hne _ 5).other hne _ 6).other hne _ 7).other hne _ 8
theorem below_putG {B r : Nat} {a w : World} (h : Below B a w) (hr : B ≤ r) (v : Cg) : Below B a (wrG w r v) :=
  ((((((((h.setCell (p := ⟨r, 0, none⟩) hr _).setCell (p := ⟨r, 1, none⟩) hr _).setCell (p := ⟨r, 2, none⟩) hr _).setCell (p := ⟨r, 3, none⟩) hr _).setCell (p := ⟨r, 4, none⟩) hr _).setCell (p := ⟨r, 5, none⟩) hr _).setCell (p := ⟨r, 6, none⟩) hr _).setCell (p := ⟨r, 7, none⟩) hr _).setCell (p := ⟨r, 8, none⟩) hr _
theorem eql_ca (x y : Ca) (w : World) : (binOp .eql 25 (cav x) (cav y)).run Try.prog w = .ok (.bool (decide (x = y))) w := by
  obtain ⟨a0, a1, a2, a3⟩ := x; obtain ⟨b0, b1, b2, b3⟩ := y
  simp [go_sem]
  by_cases h0 : a0 = b0 <;> by_cases h1 : a1 = b1 <;> by_cases h2 : a2 = b2 <;> (try by_cases h3 : a3 = b3) <;> (try simp_all)
theorem eql_cg (x y : Cg) (w : World) : (binOp .eql 27 (cgv x) (cgv y)).run Try.prog w = .ok (.bool (decide (x = y))) w := by
  obtain ⟨⟨a0, a1, a2, a3⟩, ⟨a4, a5, a6, a7⟩, a8⟩ := x; obtain ⟨⟨b0, b1, b2, b3⟩, ⟨b4, b5, b6, b7⟩, b8⟩ := y
  simp [go_sem]
  by_cases h0 : a0 = b0 <;> by_cases h1 : a1 = b1 <;> by_cases h2 : a2 = b2 <;> (try by_cases h3 : a3 = b3) <;> (try simp_all)
  all_goals (by_cases h4 : a4 = b4 <;> (try simp_all))
  all_goals (by_cases h5 : a5 = b5 <;> (try simp_all))
  all_goals (by_cases h6 : a6 = b6 <;> (try simp_all))
  all_goals (by_cases h7 : a7 = b7 <;> (try simp_all))
  all_goals (by_cases h8 : a8 = b8 <;> (try simp_all))
end Go.Proofs.Ytmhnkjjcipcjlaa.Con
