/-
  A unit as ten numbers: what is right, dead, what a step makes of it (plain); its box in memory.
-/
import Derived.Test.YtegpbdffddpmhaaPrt
namespace Go.Proofs.Ytegpbdffddpmhaa.Con
open Go.RowKit
set_option linter.unusedVariables false

@[ext] structure Un where
  i : Int
  k : Int
  g : Int
  h : Int
  m : Int
  p : Int
  q : Int
  x : Int
  y : Int
  c : Int
def FU (u : Un) : Prop := Fits u.i ∧ Fits u.k ∧ Fits u.g ∧ Fits u.h ∧ Fits u.m ∧ Fits u.p ∧ Fits u.q ∧ Fits u.x ∧ Fits u.y ∧ Fits u.c
abbrev uv (u : Un) : Value := .agg #[.int .i64 u.i, .int .i64 u.k, .int .i64 u.g, .int .i64 u.h, .int .i64 u.m, .int .i64 u.p, .int .i64 u.q, .int .i64 u.x, .int .i64 u.y, .int .i64 u.c]
abbrev oU (u : Un) : Obj := .cells #[.int .i64 u.i, .int .i64 u.k, .int .i64 u.g, .int .i64 u.h, .int .i64 u.m, .int .i64 u.p, .int .i64 u.q, .int .i64 u.x, .int .i64 u.y, .int .i64 u.c] 25
abbrev zU : Un := ⟨0, 0, 0, 0, 0, 0, 0, 0, 0, 0⟩
def wiB (n a b : Int) : Bool := decide (a ≤ n) && decide (n ≤ b)
def kB (k : Int) : Bool := (k == 1) || (k == 2)
/-- Is the unit right? -/
def rtU (u : Un) : Bool := decide (1 ≤ u.i) && (kB u.k && (decide (0 ≤ u.c) && (wiB u.g 0 8 && (wiB u.m 1 1000000 && (wiB u.h 0 u.m && (wiB u.q 0 1000000 && wiB u.p 0 u.q))))))
theorem rt_iff (u : Un) : rtU u = true ↔ 1 ≤ u.i ∧ (u.k = 1 ∨ u.k = 2) ∧ 0 ≤ u.c ∧ (0 ≤ u.g ∧ u.g ≤ 8) ∧ (1 ≤ u.m ∧ u.m ≤ 1000000) ∧ (0 ≤ u.h ∧ u.h ≤ u.m) ∧ (0 ≤ u.q ∧ u.q ≤ 1000000) ∧ (0 ≤ u.p ∧ u.p ≤ u.q) := by
  simp [rtU, wiB, kB]
/-- What a hurt by n comes to. -/
def hurtN (u : Un) (n : Int) : Int := if rtU u then clampI n 0 u.h else 0
def hurtU (u : Un) (n : Int) : Un := if rtU u then { u with h := u.h - clampI n 0 u.h, c := if u.h - clampI n 0 u.h < 1 then 0 else u.c } else u
def lvU (u : Un) : Bool := rtU u && !decide (u.h < 1)
def healN (u : Un) (n : Int) : Int := if lvU u then clampI n 0 (u.m - u.h) else 0
def healU (u : Un) (n : Int) : Un := if lvU u then { u with h := u.h + clampI n 0 (u.m - u.h) } else u
def gainN (u : Un) (n : Int) : Int := if lvU u then clampI n 0 (u.q - u.p) else 0
def gainU (u : Un) (n : Int) : Un := if lvU u then { u with p := u.p + clampI n 0 (u.q - u.p) } else u
def spendB (u : Un) (n : Int) : Bool := lvU u && wiB n 0 u.p
def spendU (u : Un) (n : Int) : Un := if spendB u n then { u with p := u.p - n } else u
def raiseB (u : Un) : Bool := rtU u && decide (u.h < 1)
def raiseU (u : Un) : Un := if raiseB u then { u with h := max 1 (u.m / 2) } else u
theorem clamp_low {n b : Int} (hb : 0 ≤ b) : 0 ≤ clampI n 0 b ∧ clampI n 0 b ≤ b := by unfold clampI; split <;> (try split) <;> (try split) <;> omega
theorem clamp_min {n b : Int} (hn : 0 ≤ n) (hb : 0 ≤ b) : clampI n 0 b = min n b := by unfold clampI; split <;> (try split) <;> (try split) <;> omega
theorem part_half {m : Int} (h0 : 0 ≤ m) (h1 : m ≤ 1000000) : partI m 1 2 = m / 2 := by
  have e1 : cpI m = m := by unfold cpI clampI; split <;> (try split) <;> (try split) <;> omega
  unfold partI
  rw [if_neg (by omega), e1, show cpI 1 = 1 from rfl, Int.mul_one, Int.tdiv_eq_ediv_of_nonneg h0]

/-! ### boxes -/
theorem cellOf' {w : World} {b : Nat} {cs : Array Value} {t : TypeId} {z : Nat × Nat} (h : w.heap[b]? = some (.cells cs t z)) (o : Nat) : w.cell? ⟨b, o, none⟩ = cs[o]? := by simp [World.cell?, h]
theorem lt_of_block {w : World} {b : Nat} {x : Obj} (h : w.heap[b]? = some x) : b < w.heap.size := (Array.getElem?_eq_some_iff.1 h).1
theorem frozOf' {w : World} {b : Nat} {cs : Array Value} {t : TypeId} (h : w.heap[b]? = some (.cells cs t (0, 0))) (o : Nat) : w.frozen? ⟨b, o, none⟩ = false := by simp [World.frozen?, h]
theorem below_more {a b c : World} (h : Below a.heap.size a b) (k : Below b.heap.size b c) : Below a.heap.size a c := h.trans (k.mono h.size)
/-- A unit's box stands in w. -/
def Bx (w : World) (b : Nat) (u : Un) : Prop := w.heap[b]? = some (oU u)
theorem Bx.lt {w : World} {b : Nat} {u : Un} (h : Bx w b u) : b < w.heap.size := lt_of_block h
theorem Bx.of {w w' : World} {b B : Nat} {u : Un} (h : Bx w b u) (hb : Below B w w') (hB : b < B) : Bx w' b u := (hb.block b hB).trans h
theorem Bx.alloc {w : World} {b : Nat} {u : Un} (h : Bx w b u) (o : Obj) : Bx (w.alloc o) b u := (Below.heap_alloc _ _ _ h.lt).trans h
theorem Bx.new (w : World) (u : Un) : Bx (w.alloc (oU u)) w.heap.size u := heap_alloc_new w _
theorem Bx.other {w : World} {b r : Nat} {u : Un} (h : Bx w b u) (hne : b ≠ r) (v : Value) (o : Nat) : Bx (w.setCell ⟨r, o, none⟩ v) b u := (heap_setCell_other w ⟨r, o, none⟩ b v hne).trans h
theorem Bx.at {w : World} {b : Nat} {u : Un} (h : Bx w b u) : w.cell? ⟨b, 0, none⟩ = some (.int .i64 u.i) ∧ w.cell? ⟨b, 1, none⟩ = some (.int .i64 u.k) ∧ w.cell? ⟨b, 2, none⟩ = some (.int .i64 u.g) ∧ w.cell? ⟨b, 3, none⟩ = some (.int .i64 u.h) ∧ w.cell? ⟨b, 4, none⟩ = some (.int .i64 u.m) ∧ w.cell? ⟨b, 5, none⟩ = some (.int .i64 u.p) ∧ w.cell? ⟨b, 6, none⟩ = some (.int .i64 u.q) ∧ w.cell? ⟨b, 7, none⟩ = some (.int .i64 u.x) ∧ w.cell? ⟨b, 8, none⟩ = some (.int .i64 u.y) ∧ w.cell? ⟨b, 9, none⟩ = some (.int .i64 u.c) :=
  ⟨cellOf' h 0, cellOf' h 1, cellOf' h 2, cellOf' h 3, cellOf' h 4, cellOf' h 5, cellOf' h 6, cellOf' h 7, cellOf' h 8, cellOf' h 9⟩
theorem Bx.set0 {w : World} {b : Nat} {u : Un} (h : Bx w b u) (n : Int) : Bx (w.setCell ⟨b, 0, none⟩ (.int .i64 n)) b { u with i := n } := heap_setCell_same w b 0 _ 25 _ h
theorem Bx.set1 {w : World} {b : Nat} {u : Un} (h : Bx w b u) (n : Int) : Bx (w.setCell ⟨b, 1, none⟩ (.int .i64 n)) b { u with k := n } := heap_setCell_same w b 1 _ 25 _ h
theorem Bx.set2 {w : World} {b : Nat} {u : Un} (h : Bx w b u) (n : Int) : Bx (w.setCell ⟨b, 2, none⟩ (.int .i64 n)) b { u with g := n } := heap_setCell_same w b 2 _ 25 _ h
theorem Bx.set3 {w : World} {b : Nat} {u : Un} (h : Bx w b u) (n : Int) : Bx (w.setCell ⟨b, 3, none⟩ (.int .i64 n)) b { u with h := n } := heap_setCell_same w b 3 _ 25 _ h
theorem Bx.set4 {w : World} {b : Nat} {u : Un} (h : Bx w b u) (n : Int) : Bx (w.setCell ⟨b, 4, none⟩ (.int .i64 n)) b { u with m := n } := heap_setCell_same w b 4 _ 25 _ h
theorem Bx.set5 {w : World} {b : Nat} {u : Un} (h : Bx w b u) (n : Int) : Bx (w.setCell ⟨b, 5, none⟩ (.int .i64 n)) b { u with p := n } := heap_setCell_same w b 5 _ 25 _ h
theorem Bx.set6 {w : World} {b : Nat} {u : Un} (h : Bx w b u) (n : Int) : Bx (w.setCell ⟨b, 6, none⟩ (.int .i64 n)) b { u with q := n } := heap_setCell_same w b 6 _ 25 _ h
theorem Bx.set7 {w : World} {b : Nat} {u : Un} (h : Bx w b u) (n : Int) : Bx (w.setCell ⟨b, 7, none⟩ (.int .i64 n)) b { u with x := n } := heap_setCell_same w b 7 _ 25 _ h
theorem Bx.set8 {w : World} {b : Nat} {u : Un} (h : Bx w b u) (n : Int) : Bx (w.setCell ⟨b, 8, none⟩ (.int .i64 n)) b { u with y := n } := heap_setCell_same w b 8 _ 25 _ h
theorem Bx.set9 {w : World} {b : Nat} {u : Un} (h : Bx w b u) (n : Int) : Bx (w.setCell ⟨b, 9, none⟩ (.int .i64 n)) b { u with c := n } := heap_setCell_same w b 9 _ 25 _ h
/-- All ten cells written. -/
abbrev putU (w : World) (b : Nat) (u : Un) : World := (((((((((w.setCell ⟨b, 0, none⟩ (.int .i64 u.i)).setCell ⟨b, 1, none⟩ (.int .i64 u.k)).setCell ⟨b, 2, none⟩ (.int .i64 u.g)).setCell ⟨b, 3, none⟩ (.int .i64 u.h)).setCell ⟨b, 4, none⟩ (.int .i64 u.m)).setCell ⟨b, 5, none⟩ (.int .i64 u.p)).setCell ⟨b, 6, none⟩ (.int .i64 u.q)).setCell ⟨b, 7, none⟩ (.int .i64 u.x)).setCell ⟨b, 8, none⟩ (.int .i64 u.y)).setCell ⟨b, 9, none⟩ (.int .i64 u.c)
theorem Bx.put {w : World} {b : Nat} {u : Un} (h : Bx w b u) (v : Un) : Bx (putU w b v) b v := (((((((((h.set0 v.i).set1 v.k).set2 v.g).set3 v.h).set4 v.m).set5 v.p).set6 v.q).set7 v.x).set8 v.y).set9 v.c
theorem Bx.putOther {w : World} {b r : Nat} {u : Un} (h : Bx w b u) (hne : b ≠ r) (v : Un) : Bx (putU w r v) b u := (((((((((h.other hne _ 0).other hne _ 1).other hne _ 2).other hne _ 3).other hne _ 4).other hne _ 5).other hne _ 6).other hne _ 7).other hne _ 8).other hne _ 9
theorem below_put {B r : Nat} {a w : World} (h : Below B a w) (hr : B ≤ r) (v : Un) : Below B a (putU w r v) :=
  (((((((((h.setCell (p := ⟨r, 0, none⟩) hr _).setCell (p := ⟨r, 1, none⟩) hr _).setCell (p := ⟨r, 2, none⟩) hr _).setCell (p := ⟨r, 3, none⟩) hr _).setCell (p := ⟨r, 4, none⟩) hr _).setCell (p := ⟨r, 5, none⟩) hr _).setCell (p := ⟨r, 6, none⟩) hr _).setCell (p := ⟨r, 7, none⟩) hr _).setCell (p := ⟨r, 8, none⟩) hr _).setCell (p := ⟨r, 9, none⟩) hr _
theorem below_box {w : World} (u : Un) : Below w.heap.size w (w.alloc (oU u)) := (Below.refl _ _).alloc (Nat.le_refl _) _
theorem eql_unit (u : Un) (w : World) : (binOp .eql 25 (uv u) (uv u)).run Try.prog w = .ok (.bool true) w := by
  simp [go_sem]
theorem neq_unit (u : Un) (w : World) : (binOp .neq 25 (uv u) (uv u)).run Try.prog w = .ok (.bool false) w := by
  simp [go_sem]
end Go.Proofs.Ytegpbdffddpmhaa.Con
