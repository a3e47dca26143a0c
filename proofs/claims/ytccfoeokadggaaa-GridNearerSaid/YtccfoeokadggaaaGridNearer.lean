/-
  GridNearer: for every grid, every two tiles and every two numbers the law answers true (one walks at most n steps, comes nearer with each, never into a wall, and two walks are one longer one); no condition (grids of more than 1024 walls and numbers below 0 or above 2^20 are let by, as the law says).
-/
import Derived.Test.YtccfoeokadggaaaSma
import Derived.Test.YtccfoeokadggaaaOpen
import Derived.Test.YtccfoeokadggaaaNrr
import Derived.Deep.Cut
import Derived.WalkKit
import Derived.ProofKit
import Derived.OpenShut
namespace Go.Proofs.Ytccfoeokadggaaa.gridNearer
open Go.ChangeShapes Go.WideShapes Go.ChangeAt Go.RowKit Con Wlk
set_option linter.unusedVariables false

theorem own : ownKnob Try.prog.godebug = none := by kernel_rfl

/-- A grid and two tiles in their boxes. -/
structure GAt (gw gh : Int) (A : Option Addr) (k c : Nat) (ax ay bx by' : Int) (W V : World) : Prop where
  grid : V.heap[W.heap.size]? = some (.cells #[.int .i64 gw, .int .i64 gh, .slice A k c] 29 (0, 0))
  a : BoxP V (W.heap.size + 1) ax ay
  b : BoxP V (W.heap.size + 1 + 1) bx by'
  below : Below W.heap.size W V
abbrev gopen (gw gh : Int) (A : Option Addr) (k c : Nat) (ax ay bx by' : Int) (w : World) : World :=
  ((w.alloc (.cells #[.int .i64 gw, .int .i64 gh, .slice A k c] 29)).alloc (.cells #[.int .i64 ax, .int .i64 ay] 23)).alloc (.cells #[.int .i64 bx, .int .i64 by'] 23)
theorem GAt.start (gw gh : Int) (A : Option Addr) (k c : Nat) (ax ay bx by' : Int) (w : World) : GAt gw gh A k c ax ay bx by' w (gopen gw gh A k c ax ay bx by' w) :=
  ⟨old_at (old_at (new_at _ _ rfl)), old_at (new_at _ _ (by simp)), new_at _ _ (by simp), (((Below.refl _ w).alloc (Nat.le_refl _) _).alloc (by simp) _).alloc (by simp; omega) _⟩
theorem GAt.of {gw gh : Int} {A : Option Addr} {k c : Nat} {ax ay bx by' : Int} {W V V' : World} (h : GAt gw gh A k c ax ay bx by' W V) (hb : Below V.heap.size V V') : GAt gw gh A k c ax ay bx by' W V' :=
  ⟨(hb.block _ (Array.getElem?_eq_some_iff.1 h.grid).1).trans h.grid, h.a.kept (hb.block _ h.a.lt), h.b.kept (hb.block _ h.b.lt), h.below.trans (hb.mono h.below.size)⟩
theorem GAt.drew {gw gh : Int} {A : Option Addr} {k c : Nat} {ax ay bx by' : Int} {W V : World} (h : GAt gw gh A k c ax ay bx by' W V) : GAt gw gh A k c ax ay bx by' W V.drew := h.of (Below.refl _ _).drew
theorem GAt.cells {gw gh : Int} {A : Option Addr} {k c : Nat} {ax ay bx by' : Int} {W V : World} (h : GAt gw gh A k c ax ay bx by' W V) :
    V.cell? ⟨W.heap.size, 0, none⟩ = some (.int .i64 gw) ∧ V.cell? ⟨W.heap.size, 1, none⟩ = some (.int .i64 gh) ∧ V.cell? ⟨W.heap.size, 2, none⟩ = some (.slice A k c) ∧
    V.cell? ⟨W.heap.size + 1, 0, none⟩ = some (.int .i64 ax) ∧ V.cell? ⟨W.heap.size + 1, 1, none⟩ = some (.int .i64 ay) ∧ V.cell? ⟨W.heap.size + 1 + 1, 0, none⟩ = some (.int .i64 bx) ∧ V.cell? ⟨W.heap.size + 1 + 1, 1, none⟩ = some (.int .i64 by') :=
  ⟨by simp [World.cell?, h.grid], by simp [World.cell?, h.grid], by simp [World.cell?, h.grid], h.a.cell0, h.a.cell1, h.b.cell0, h.b.cell1⟩


set_option maxRecDepth 100000 in
set_option maxHeartbeats 4000000 in
theorem early (W : World) (gw gh : Int) (A : Option Addr) (c k : Nat) (ax ay bx by' n m : Int)
    (h : ¬ ((k : Int) ≤ 1024) ∨ n < 0 ∨ m < 0 ∨ 1048576 < n ∨ 1048576 < m) :
    Calls Try.prog 6 #[gv gw gh A k c, pv ax ay, pv bx by', .int .i64 n, .int .i64 m] W fun e w' => e = .returned (.bool true) ∧ Below W.heap.size W w' := by
  have HG0 := Lib.hid (GAt.start gw gh A k c ax ay bx by' W)
  have HH := Lib.hid h; clear h
  by_cases f0 : (k : Int) ≤ 1024
  · have f0' : decide ((k : Int) ≤ 1024) = true := by simpa using f0
    by_cases f1 : n < 0
    · have f1' : decide (n < 0) = true := by simpa using f1
      go_enter Try.func6, Try.ntmps6
      go_wp2_with (first
        | ((with_reducible refine (small_any _).mono ?_); rintro e w1 ⟨rfl, hB1⟩; have HG1 := Lib.hid (HG0.out.of hB1); obtain ⟨k0, k1, k2, k3, k4, k5, k6⟩ := HG1.out.cells; clear hB1)
        | ((with_reducible refine (few_any gw gh A k c _).mono ?_); rintro e w2 ⟨rfl, hB2⟩; have HG2 := Lib.hid (HG1.out.of hB2); clear hB2 k0 k1 k2 k3 k4 k5 k6))
      go_ret
      exact ⟨rfl, HG2.out.below⟩
    · have f1' : decide (n < 0) = false := by simpa using f1
      by_cases f2 : m < 0
      · have f2' : decide (m < 0) = true := by simpa using f2
        go_enter Try.func6, Try.ntmps6
        go_wp2_with (first
          | ((with_reducible refine (small_any _).mono ?_); rintro e w1 ⟨rfl, hB1⟩; have HG1 := Lib.hid (HG0.out.of hB1); obtain ⟨k0, k1, k2, k3, k4, k5, k6⟩ := HG1.out.cells; clear hB1)
          | ((with_reducible refine (few_any gw gh A k c _).mono ?_); rintro e w2 ⟨rfl, hB2⟩; have HG2 := Lib.hid (HG1.out.of hB2); clear hB2 k0 k1 k2 k3 k4 k5 k6))
        go_ret
        exact ⟨rfl, HG2.out.below⟩
      · have f2' : decide (m < 0) = false := by simpa using f2
        by_cases f3 : 1048576 < n
        · have f3' : decide (1048576 < n) = true := by simpa using f3
          go_enter Try.func6, Try.ntmps6
          go_wp2_with (first
            | ((with_reducible refine (small_any _).mono ?_); rintro e w1 ⟨rfl, hB1⟩; have HG1 := Lib.hid (HG0.out.of hB1); obtain ⟨k0, k1, k2, k3, k4, k5, k6⟩ := HG1.out.cells; clear hB1)
            | ((with_reducible refine (few_any gw gh A k c _).mono ?_); rintro e w2 ⟨rfl, hB2⟩; have HG2 := Lib.hid (HG1.out.of hB2); clear hB2 k0 k1 k2 k3 k4 k5 k6))
          go_ret
          exact ⟨rfl, HG2.out.below⟩
        · have f3' : decide (1048576 < n) = false := by simpa using f3
          have f4 : 1048576 < m := by have := HH.out; omega
          have f4' : decide (1048576 < m) = true := by simpa using f4
          go_enter Try.func6, Try.ntmps6
          go_wp2_with (first
            | ((with_reducible refine (small_any _).mono ?_); rintro e w1 ⟨rfl, hB1⟩; have HG1 := Lib.hid (HG0.out.of hB1); obtain ⟨k0, k1, k2, k3, k4, k5, k6⟩ := HG1.out.cells; clear hB1)
            | ((with_reducible refine (few_any gw gh A k c _).mono ?_); rintro e w2 ⟨rfl, hB2⟩; have HG2 := Lib.hid (HG1.out.of hB2); clear hB2 k0 k1 k2 k3 k4 k5 k6))
          go_ret
          exact ⟨rfl, HG2.out.below⟩
  · have f0' : decide ((k : Int) ≤ 1024) = false := by simpa using f0
    go_enter Try.func6, Try.ntmps6
    go_wp2_with (first
      | ((with_reducible refine (small_any _).mono ?_); rintro e w1 ⟨rfl, hB1⟩; have HG1 := Lib.hid (HG0.out.of hB1); obtain ⟨k0, k1, k2, k3, k4, k5, k6⟩ := HG1.out.cells; clear hB1)
      | ((with_reducible refine (few_any gw gh A k c _).mono ?_); rintro e w2 ⟨rfl, hB2⟩; have HG2 := Lib.hid (HG1.out.of hB2); clear hB2 k0 k1 k2 k3 k4 k5 k6))
    go_ret
    exact ⟨rfl, HG2.out.below⟩
/-- ==B== -/
def One (gw gh : Int) (A : Option Addr) (k c : Nat) (ax ay bx by' : Int) (W : World) (f : Nat) (args : Array Value) (v : Value) : Prop :=
  ∀ V : World, GAt gw gh A k c ax ay bx by' W V → Calls Try.prog f args V fun e w' => e = .returned v ∧ Below V.heap.size V w'

set_option maxRecDepth 100000 in
set_option maxHeartbeats 4000000 in
theorem no_tile (W : World) (gw gh : Int) (A : Option Addr) (c : Nat) (l : List Bool) (hr : RB W W.heap.size A l) (ax ay bx by' n m : Int) (h5 : Fits n) (f0 : (l.length : Int) ≤ 1024) (f1 : 0 ≤ n) (f2 : 0 ≤ m) (f3 : n ≤ 1048576) (f4 : m ≤ 1048576)
    (hI : (inB gw gh l.length ax ay && inB gw gh l.length bx by') = false) :
    Calls Try.prog 6 #[gv gw gh A l.length c, pv ax ay, pv bx by', .int .i64 n, .int .i64 m] W fun e w' => e = .returned (.bool true) ∧ Below W.heap.size W w' := by
  have HG0 := Lib.hid (GAt.start gw gh A l.length c ax ay bx by' W)
  have t1 : One gw gh A l.length c ax ay bx by' W 15 #[gv gw gh A l.length c, pv ax ay, pv bx by', .int .i64 n] (pv ax ay) := fun V h => by
    have := toward_any gw gh A l c ax ay bx by' n V W.heap.size (hr.below h.below (Nat.le_refl _)) h.below.size h5
    unfold tow at this
    rw [hI] at this
    exact this
  have T1 : Hid (∀ V : World, GAt gw gh A l.length c ax ay bx by' W V → Calls Try.prog 15 #[gv gw gh A l.length c, pv ax ay, pv bx by', .int .i64 n] V fun e w' => e = .returned (pv ax ay) ∧ Below V.heap.size V w') := Lib.hid t1
  clear t1 hr h5
  have f0' : decide ((l.length : Int) ≤ 1024) = true := by simpa using f0
  have f1' : decide (n < 0) = false := by simp; omega
  have f2' : decide (m < 0) = false := by simp; omega
  have f3' : decide (1048576 < n) = false := by simp; omega
  have f4' : decide (1048576 < m) = false := by simp; omega
  cases ha : inB gw gh l.length ax ay with
  | false =>
    have HA := Lib.hid ha
    go_enter Try.func6, Try.ntmps6
    go_wp2_with (first
      | ((with_reducible refine (small_any _).mono ?_); rintro e w1 ⟨rfl, hB1⟩; have HG1 := Lib.hid (HG0.out.of hB1); obtain ⟨k0, k1, k2, k3, k4, k5, k6⟩ := HG1.out.cells; clear hB1)
      | ((with_reducible refine (few_any gw gh A l.length c _).mono ?_); rintro e w2 ⟨rfl, hB2⟩; have HG2 := Lib.hid (HG1.out.of hB2); clear k0 k1 k2 k3 k4 k5 k6; obtain ⟨k0, k1, k2, k3, k4, k5, k6⟩ := HG2.out.cells; clear hB2)
      | ((with_reducible refine (T1.out _ HG2.out).mono ?_); rintro e w3 ⟨rfl, hB3⟩; have HG3 := Lib.hid (HG2.out.of hB3); have HG4 := Lib.hid (HG3.out.of ((Below.refl _ _).alloc (Nat.le_refl _) (.cells #[.int .i64 ax, .int .i64 ay] 23))); have HP4 := Lib.hid (BoxP.new w3 ax ay); clear k0 k1 k2 k3 k4 k5 k6; obtain ⟨k0, k1, k2, k3, k4, k5, k6⟩ := HG4.out.cells; clear hB3)
      | ((with_reducible refine (in_any gw gh A l.length c ax ay _).mono ?_); rintro e w5 ⟨rfl, hB5⟩; have HG5 := Lib.hid (HG4.out.of hB5); have HP5 := Lib.hid (HP4.out.kept (hB5.block _ HP4.out.lt)); clear k0 k1 k2 k3 k4 k5 k6; obtain ⟨k0, k1, k2, k3, k4, k5, k6⟩ := HG5.out.cells; have p0 := HP5.out.cell0; have p1 := HP5.out.cell1; clear hB5))
    go_ret
    exact ⟨by simp, HG5.out.below⟩
  | true =>
    have HA := Lib.hid ha
    have hb : inB gw gh l.length bx by' = false := by rw [ha] at hI; simpa using hI
    have HB := Lib.hid hb
    go_enter Try.func6, Try.ntmps6
    go_wp2_with (first
      | ((with_reducible refine (small_any _).mono ?_); rintro e w1 ⟨rfl, hB1⟩; have HG1 := Lib.hid (HG0.out.of hB1); obtain ⟨k0, k1, k2, k3, k4, k5, k6⟩ := HG1.out.cells; clear hB1)
      | ((with_reducible refine (few_any gw gh A l.length c _).mono ?_); rintro e w2 ⟨rfl, hB2⟩; have HG2 := Lib.hid (HG1.out.of hB2); clear k0 k1 k2 k3 k4 k5 k6; obtain ⟨k0, k1, k2, k3, k4, k5, k6⟩ := HG2.out.cells; clear hB2)
      | ((with_reducible refine (T1.out _ HG2.out).mono ?_); rintro e w3 ⟨rfl, hB3⟩; have HG3 := Lib.hid (HG2.out.of hB3); have HG4 := Lib.hid (HG3.out.of ((Below.refl _ _).alloc (Nat.le_refl _) (.cells #[.int .i64 ax, .int .i64 ay] 23))); have HP4 := Lib.hid (BoxP.new w3 ax ay); clear k0 k1 k2 k3 k4 k5 k6; obtain ⟨k0, k1, k2, k3, k4, k5, k6⟩ := HG4.out.cells; clear hB3)
      | ((with_reducible refine (in_any gw gh A l.length c ax ay _).mono ?_); rintro e w5 ⟨rfl, hB5⟩; have HG5 := Lib.hid (HG4.out.of hB5); have HP5 := Lib.hid (HP4.out.kept (hB5.block _ HP4.out.lt)); clear k0 k1 k2 k3 k4 k5 k6; obtain ⟨k0, k1, k2, k3, k4, k5, k6⟩ := HG5.out.cells; clear hB5)
      | ((with_reducible refine (in_any gw gh A l.length c bx by' _).mono ?_); rintro e w6 ⟨rfl, hB6⟩; have HG6 := Lib.hid (HG5.out.of hB6); have HP6 := Lib.hid (HP5.out.kept (hB6.block _ HP5.out.lt)); clear k0 k1 k2 k3 k4 k5 k6; obtain ⟨k0, k1, k2, k3, k4, k5, k6⟩ := HG6.out.cells; have p0 := HP6.out.cell0; have p1 := HP6.out.cell1; clear hB6))
    go_ret
    exact ⟨by simp, HG6.out.below⟩

/-- Where one stands, in its box, beside the grid and the two tiles. -/
structure PAt (gw gh : Int) (A : Option Addr) (k c : Nat) (ax ay bx by' px py : Int) (P : Nat) (W V : World) : Prop where
  g : GAt gw gh A k c ax ay bx by' W V
  p : BoxP V P px py
theorem PAt.of {gw gh : Int} {A : Option Addr} {k c : Nat} {ax ay bx by' px py : Int} {P : Nat} {W V V' : World} (h : PAt gw gh A k c ax ay bx by' px py P W V) (hb : Below V.heap.size V V') : PAt gw gh A k c ax ay bx by' px py P W V' := ⟨h.g.of hb, h.p.kept (hb.block _ h.p.lt)⟩
theorem PAt.drew {gw gh : Int} {A : Option Addr} {k c : Nat} {ax ay bx by' px py : Int} {P : Nat} {W V : World} (h : PAt gw gh A k c ax ay bx by' px py P W V) : PAt gw gh A k c ax ay bx by' px py P W V.drew := h.of (Below.refl _ _).drew
theorem PAt.cells {gw gh : Int} {A : Option Addr} {k c : Nat} {ax ay bx by' px py : Int} {P : Nat} {W V : World} (h : PAt gw gh A k c ax ay bx by' px py P W V) :
    V.cell? ⟨W.heap.size, 0, none⟩ = some (.int .i64 gw) ∧ V.cell? ⟨W.heap.size, 1, none⟩ = some (.int .i64 gh) ∧ V.cell? ⟨W.heap.size, 2, none⟩ = some (.slice A k c) ∧
    V.cell? ⟨W.heap.size + 1, 0, none⟩ = some (.int .i64 ax) ∧ V.cell? ⟨W.heap.size + 1, 1, none⟩ = some (.int .i64 ay) ∧ V.cell? ⟨W.heap.size + 1 + 1, 0, none⟩ = some (.int .i64 bx) ∧ V.cell? ⟨W.heap.size + 1 + 1, 1, none⟩ = some (.int .i64 by') ∧
    V.cell? ⟨P, 0, none⟩ = some (.int .i64 px) ∧ V.cell? ⟨P, 1, none⟩ = some (.int .i64 py) := by
  obtain ⟨h0, h1, h2, h3, h4, h5, h6⟩ := h.g.cells
  exact ⟨h0, h1, h2, h3, h4, h5, h6, h.p.cell0, h.p.cell1⟩

/-- Beside it the second walk's end. -/
def QAt (gw gh : Int) (A : Option Addr) (k c : Nat) (ax ay bx by' px py qx qy : Int) (P Q : Nat) (W V : World) : Prop := PAt gw gh A k c ax ay bx by' px py P W V ∧ BoxP V Q qx qy
theorem QAt.mk {gw gh : Int} {A : Option Addr} {k c : Nat} {ax ay bx by' px py qx qy : Int} {P Q : Nat} {W V : World} (h1 : PAt gw gh A k c ax ay bx by' px py P W V) (h2 : BoxP V Q qx qy) : QAt gw gh A k c ax ay bx by' px py qx qy P Q W V := ⟨h1, h2⟩
theorem QAt.gg {gw gh : Int} {A : Option Addr} {k c : Nat} {ax ay bx by' px py qx qy : Int} {P Q : Nat} {W V : World} (h : QAt gw gh A k c ax ay bx by' px py qx qy P Q W V) : GAt gw gh A k c ax ay bx by' W V := h.1.g
theorem QAt.of {gw gh : Int} {A : Option Addr} {k c : Nat} {ax ay bx by' px py qx qy : Int} {P Q : Nat} {W V V' : World} (h : QAt gw gh A k c ax ay bx by' px py qx qy P Q W V) (hb : Below V.heap.size V V') : QAt gw gh A k c ax ay bx by' px py qx qy P Q W V' := ⟨h.1.of hb, h.2.kept (hb.block _ h.2.lt)⟩
theorem QAt.drew {gw gh : Int} {A : Option Addr} {k c : Nat} {ax ay bx by' px py qx qy : Int} {P Q : Nat} {W V : World} (h : QAt gw gh A k c ax ay bx by' px py qx qy P Q W V) : QAt gw gh A k c ax ay bx by' px py qx qy P Q W V.drew := h.of (Below.refl _ _).drew
/-- What 'stuck' leaves. -/
def Post13 (gw gh : Int) (A : Option Addr) (l : List Bool) (c : Nat) (ax ay bx by' px py qx qy ux uy k n m : Int) (P Pq Pn : Nat) (W : World) (u64 u65 u66 u67 u68 u69 u70 u71 u72 u73 u74 u75 u76 u77 u78 u79 u80 u81 u82 u83 u84 u85 u86 u87 u88 u89 u90 u91 u92 : Value) : Exit → Act → World → Prop := fun e a' w' =>
  ∃ (u103 u104 u105 u106 u107 u108 u109 u110 : Value) (st : Bool), e = .normal ∧ PAt gw gh A l.length c ax ay bx by' px py P W w' ∧ BoxP w' Pq qx qy ∧ (k = n ∨ st = true) ∧ a' = { tmps := #[gv gw gh A l.length c, pv ax ay, pv bx by', .int .i64 n, .int .i64 m, .pointer (some ⟨W.heap.size, 0, none⟩), .pointer (some ⟨W.heap.size + 1, 0, none⟩), .pointer (some ⟨W.heap.size + 1 + 1, 0, none⟩), undef, undef, .bool false, .bool true, .bool true, .pointer (some ⟨P, 0, none⟩), .int .i64 k, .pointer (some ⟨Pq, 0, none⟩), .pointer (some ⟨Pn, 0, none⟩), .bool st, .bool true, gv gw gh A l.length c, .bool true, .bool true, .bool false, .bool false, .int .i64 n, .bool false, .bool false, .bool false, .int .i64 m, .bool false, .bool false, .bool false, .int .i64 n, .bool false, .bool false, .bool false, .int .i64 m, .bool false, .bool false, undef, gv gw gh A l.length c, pv ax ay, pv bx by', .int .i64 n, pv px py, gv gw gh A l.length c, pv ax ay, .bool true, .bool false, .bool false, gv gw gh A l.length c, pv bx by', .bool true, .bool false, .bool false, undef, undef, undef, undef, undef, undef, pv ax ay, pv px py, .int .i64 k, u64, u65, u66, u67, u68, u69, u70, u71, u72, u73, u74, u75, u76, u77, u78, u79, u80, u81, u82, u83, u84, u85, u86, u87, u88, u89, u90, u91, u92, .bool false, gv gw gh A l.length c, pv px py, pv bx by', .int .i64 m, pv qx qy, gv gw gh A l.length c, pv px py, pv bx by', pv ux uy, u103, u104, u105, u106, u107, u108, u109, u110, undef, undef, undef, undef, undef, undef, undef, undef, undef, undef, undef, undef, undef, undef, undef, undef, undef, undef, undef, undef, undef, undef, undef, undef, undef, undef, undef, undef, undef], defers := [] }
theorem QAt.cells {gw gh : Int} {A : Option Addr} {k c : Nat} {ax ay bx by' px py qx qy : Int} {P Q : Nat} {W V : World} (h : QAt gw gh A k c ax ay bx by' px py qx qy P Q W V) :
    V.cell? ⟨W.heap.size, 0, none⟩ = some (.int .i64 gw) ∧ V.cell? ⟨W.heap.size, 1, none⟩ = some (.int .i64 gh) ∧ V.cell? ⟨W.heap.size, 2, none⟩ = some (.slice A k c) ∧
    V.cell? ⟨W.heap.size + 1, 0, none⟩ = some (.int .i64 ax) ∧ V.cell? ⟨W.heap.size + 1, 1, none⟩ = some (.int .i64 ay) ∧ V.cell? ⟨W.heap.size + 1 + 1, 0, none⟩ = some (.int .i64 bx) ∧ V.cell? ⟨W.heap.size + 1 + 1, 1, none⟩ = some (.int .i64 by') ∧
    V.cell? ⟨P, 0, none⟩ = some (.int .i64 px) ∧ V.cell? ⟨P, 1, none⟩ = some (.int .i64 py) ∧ V.cell? ⟨Q, 0, none⟩ = some (.int .i64 qx) ∧ V.cell? ⟨Q, 1, none⟩ = some (.int .i64 qy) := by
  obtain ⟨h0, h1, h2, h3, h4, h5, h6, h7, h8⟩ := h.1.cells
  exact ⟨h0, h1, h2, h3, h4, h5, h6, h7, h8, h.2.cell0, h.2.cell1⟩

set_option maxRecDepth 100000 in
set_option maxHeartbeats 8000000 in
theorem core (W : World) (gw gh : Int) (A : Option Addr) (c : Nat) (l : List Bool) (ax ay bx by' px py qx qy ux uy k s3 n m : Int) (wp : Bool) (f0 : (l.length : Int) ≤ 1024) (f1 : 0 ≤ n) (f2 : 0 ≤ m) (f3 : n ≤ 1048576) (f4 : m ≤ 1048576)
    (T1 : Hid (∀ V : World, GAt gw gh A l.length c ax ay bx by' W V → Calls Try.prog 15 #[gv gw gh A l.length c, pv ax ay, pv bx by', .int .i64 n] V fun e w' => e = .returned (pv px py) ∧ Below V.heap.size V w'))
    (T2 : Hid (∀ V : World, GAt gw gh A l.length c ax ay bx by' W V → Calls Try.prog 15 #[gv gw gh A l.length c, pv px py, pv bx by', .int .i64 m] V fun e w' => e = .returned (pv qx qy) ∧ Below V.heap.size V w'))
    (T3 : Hid (∀ V : World, GAt gw gh A l.length c ax ay bx by' W V → Calls Try.prog 15 #[gv gw gh A l.length c, pv px py, pv bx by', .int .i64 1] V fun e w' => e = .returned (pv ux uy) ∧ Below V.heap.size V w'))
    (T4 : Hid (∀ V : World, GAt gw gh A l.length c ax ay bx by' W V → Calls Try.prog 15 #[gv gw gh A l.length c, pv ax ay, pv bx by', .int .i64 (n + m)] V fun e w' => e = .returned (pv qx qy) ∧ Below V.heap.size V w'))
    (TW : Hid (∀ V : World, GAt gw gh A l.length c ax ay bx by' W V → Calls Try.prog 18 #[gv gw gh A l.length c, pv px py] V fun e w' => e = .returned (.bool wp) ∧ Below V.heap.size V w'))
    (I1 : Hid (∀ V : World, Calls Try.prog 17 #[gv gw gh A l.length c, pv ax ay] V fun e w' => e = .returned (.bool true) ∧ Below V.heap.size V w'))
    (I2 : Hid (∀ V : World, Calls Try.prog 17 #[gv gw gh A l.length c, pv bx by'] V fun e w' => e = .returned (.bool true) ∧ Below V.heap.size V w'))
    (I3 : Hid (∀ V : World, Calls Try.prog 17 #[gv gw gh A l.length c, pv px py] V fun e w' => e = .returned (.bool true) ∧ Below V.heap.size V w'))
    (S1 : Hid (∀ V : World, Calls Try.prog 10 #[pv ax ay, pv px py] V fun e w' => e = .returned (.int .i64 k) ∧ Below V.heap.size V w'))
    (S2 : Hid (∀ V : World, Calls Try.prog 10 #[pv px py, pv bx by'] V fun e w' => e = .returned (.int .i64 (s3 - k)) ∧ Below V.heap.size V w'))
    (S3 : Hid (∀ V : World, Calls Try.prog 10 #[pv ax ay, pv bx by'] V fun e w' => e = .returned (.int .i64 s3) ∧ Below V.heap.size V w'))
    (hk : 0 ≤ k ∧ k ≤ n) (hs : 0 ≤ s3 ∧ s3 ≤ 9223372036854775807 ∧ 0 ≤ s3 - k) (hwp : Hid (¬ (px = ax ∧ py = ay) → wp = false))
    (hends : Hid (k = n ∨ (px = bx ∧ py = by') ∨ (ux = px ∧ uy = py))) (hnone : Hid (n = 0 → px = ax ∧ py = ay)) :
    Calls Try.prog 6 #[gv gw gh A l.length c, pv ax ay, pv bx by', .int .i64 n, .int .i64 m] W fun e w' => e = .returned (.bool true) ∧ Below W.heap.size W w' := by
  have HG0 := Lib.hid (GAt.start gw gh A l.length c ax ay bx by' W)
  have f0' : decide ((l.length : Int) ≤ 1024) = true := by simpa using f0
  have f1' : decide (n < 0) = false := by simp; omega
  have f2' : decide (m < 0) = false := by simp; omega
  have f3' : decide (1048576 < n) = false := by simp; omega
  have f4' : decide (1048576 < m) = false := by simp; omega
  go_enter Try.func6, Try.ntmps6
  go_wp2_with (first
    | ((with_reducible refine (small_any _).mono ?_); rintro e w1 ⟨rfl, hB1⟩; have HG1 := Lib.hid (HG0.out.of hB1); obtain ⟨k0, k1, k2, k3, k4, k5, k6⟩ := HG1.out.cells; clear hB1)
    | ((with_reducible refine (few_any gw gh A l.length c _).mono ?_); rintro e w2 ⟨rfl, hB2⟩; have HG2 := Lib.hid (HG1.out.of hB2); clear k0 k1 k2 k3 k4 k5 k6; obtain ⟨k0, k1, k2, k3, k4, k5, k6⟩ := HG2.out.cells; clear hB2)
    | ((with_reducible refine (T1.out _ HG2.out).mono ?_); rintro e w3 ⟨rfl, hB3⟩; have HG3 := Lib.hid (HG2.out.of hB3); have HG4 := Lib.hid (HG3.out.of ((Below.refl _ _).alloc (Nat.le_refl _) (.cells #[.int .i64 px, .int .i64 py] 23))); have HP4 := Lib.hid (BoxP.new w3 px py); clear k0 k1 k2 k3 k4 k5 k6; obtain ⟨k0, k1, k2, k3, k4, k5, k6⟩ := HG4.out.cells; clear hB3)
    | ((with_reducible refine (I1.out _).mono ?_); rintro e w5 ⟨rfl, hB5⟩; have HQ5 := Lib.hid ((PAt.mk HG4.out HP4.out).of hB5); clear k0 k1 k2 k3 k4 k5 k6; obtain ⟨k0, k1, k2, k3, k4, k5, k6, k7, k8⟩ := HQ5.out.cells; clear hB5)
    | ((with_reducible refine (I2.out _).mono ?_); rintro e w6 ⟨rfl, hB6⟩; have HQ6 := Lib.hid (HQ5.out.of hB6); clear k0 k1 k2 k3 k4 k5 k6 k7 k8; obtain ⟨k0, k1, k2, k3, k4, k5, k6, k7, k8⟩ := HQ6.out.cells; clear hB6)
    | ((with_reducible refine (S1.out _).mono ?_); rintro e w7 ⟨rfl, hB7⟩; have HQ7 := Lib.hid (HQ6.out.of hB7); clear k0 k1 k2 k3 k4 k5 k6 k7 k8; clear hB7))
  -- ==CUTS==
  have kn : decide (n < k) = false := by simp; omega
  have kn2 : decide (k > n) = false := by simp; omega
  have kn3 : k ≤ n := hk.2
  have sk : IntKind.i64.wrap (s3 - k) = s3 - k := IntWalk.i64_in _ (by omega)
  have nm : IntKind.i64.wrap (n + m) = n + m := IntWalk.i64_in _ (by omega)
  have NM := Lib.hid nm; clear nm
  generalize w3.heap.size = P at HQ7 ⊢
  refine Code.wp_mono (Q := fun e a' w' => ∃ u64 u65 u66 u67 u68 u69 u70 u71 u72 u73 u74 u75 u76 u77 u78 u79 u80 u81 u82 u83 u84 u85 u86 u87 u88 u89 u90 u91 u92, e = .normal ∧ PAt gw gh A l.length c ax ay bx by' px py P W w' ∧ a' = { tmps := #[gv gw gh A l.length c, pv ax ay, pv bx by', .int .i64 n, .int .i64 m, .pointer (some ⟨W.heap.size, 0, none⟩), .pointer (some ⟨W.heap.size + 1, 0, none⟩), .pointer (some ⟨W.heap.size + 1 + 1, 0, none⟩), undef, undef, .bool false, .bool true, .bool true, .pointer (some ⟨P, 0, none⟩), .int .i64 k, undef, undef, undef, .bool true, gv gw gh A l.length c, .bool true, .bool true, .bool false, .bool false, .int .i64 n, .bool false, .bool false, .bool false, .int .i64 m, .bool false, .bool false, .bool false, .int .i64 n, .bool false, .bool false, .bool false, .int .i64 m, .bool false, .bool false, undef, gv gw gh A l.length c, pv ax ay, pv bx by', .int .i64 n, pv px py, gv gw gh A l.length c, pv ax ay, .bool true, .bool false, .bool false, gv gw gh A l.length c, pv bx by', .bool true, .bool false, .bool false, undef, undef, undef, undef, undef, undef, pv ax ay, pv px py, .int .i64 k, u64, u65, u66, u67, u68, u69, u70, u71, u72, u73, u74, u75, u76, u77, u78, u79, u80, u81, u82, u83, u84, u85, u86, u87, u88, u89, u90, u91, u92, .bool false, undef, undef, undef, undef, undef, undef, undef, undef, undef, undef, undef, undef, undef, undef, undef, undef, undef, undef, undef, undef, undef, undef, undef, undef, undef, undef, undef, undef, undef, undef, undef, undef, undef, undef, undef, undef, undef, undef, undef, undef, undef, undef, undef, undef, undef, undef], defers := [] }) ?post9 ?reg9
  case reg9 =>
    by_cases hx : px = ax
    · by_cases hy : py = ay
      · subst hx
        subst hy
        refine wp_region_noPanic ?_
        refine wp_region_held_drew (S := PAt gw gh A l.length c px py bx by' px py P W) (by kernel_rfl) HQ7.out.drew (fun _ => ?_)
        refine wpAnyH_take (i := 0) (oi := ⟨some 64, Op.move (Operand.tmp 14), 3, _, _, none⟩) (v := ?ve0) rfl (by kernel_rfl) (by kernel_rfl) (by kernel_rfl) (fun _ _ _ h => h) (Or.inl ⟨by rfl, ?he0⟩) HQ7.out.drew ?re0
        case he0 => (intro wz hSw; go_simp <;> with_reducible rfl)
        (try simp only [Act.put, List.setIfInBounds_toArray, List.set_cons_zero, List.set_cons_succ])
        refine wpAnyH_take (i := 1) (oi := ⟨some 65, Op.move (Operand.tmp 3), 3, _, _, none⟩) (v := ?ve1) rfl (by kernel_rfl) (by kernel_rfl) (by kernel_rfl) (fun _ _ _ h => h) (Or.inl ⟨by rfl, ?he1⟩) HQ7.out.drew ?re1
        case he1 => (intro wz hSw; go_simp <;> with_reducible rfl)
        (try simp only [Act.put, List.setIfInBounds_toArray, List.set_cons_zero, List.set_cons_succ])
        refine wpAnyH_take (i := 2) (oi := ⟨some 66, Op.binOp BinOp.gtr 3 (Operand.tmp 64) (Operand.tmp 65) 3, 4, _, _, none⟩) (v := .bool false) rfl (by kernel_rfl) (by kernel_rfl) (by kernel_rfl) (fun _ _ _ h => h) (Or.inl ⟨by rfl, ?he2⟩) HQ7.out.drew ?re2
        case he2 => (intro wz hSw; go_simp <;> with_reducible rfl)
        (try simp only [Act.put, List.setIfInBounds_toArray, List.set_cons_zero, List.set_cons_succ])
        refine wpAnyH_take (i := 3) (oi := ⟨some 67, Op.move (Operand.tmp 66), 4, _, _, none⟩) (v := ?ve3) rfl (by kernel_rfl) (by kernel_rfl) (by kernel_rfl) (fun _ _ _ h => h) (Or.inl ⟨by rfl, ?he3⟩) HQ7.out.drew ?re3
        case he3 => (intro wz hSw; go_simp <;> with_reducible rfl)
        (try simp only [Act.put, List.setIfInBounds_toArray, List.set_cons_zero, List.set_cons_succ])
        refine wpAnyH_take (i := 4) (oi := ⟨some 68, Op.load 23 (Operand.tmp 13), 23, _, _, some (3, false)⟩) (v := ?ve4) rfl (by kernel_rfl) (by kernel_rfl) (by kernel_rfl) (fun _ _ _ h => h) (Or.inl ⟨by rfl, ?he4⟩) HQ7.out.drew ?re4
        case he4 => (intro wz hSw; obtain ⟨c0, c1, c2, c3, c4, c5, c6, c7, c8⟩ := hSw.cells; go_simp <;> with_reducible rfl)
        (try simp only [Act.put, List.setIfInBounds_toArray, List.set_cons_zero, List.set_cons_succ])
        refine wpAnyH_take (i := 5) (oi := ⟨some 69, Op.load 23 (Operand.tmp 7), 23, _, _, some (3, false)⟩) (v := ?ve5) rfl (by kernel_rfl) (by kernel_rfl) (by kernel_rfl) (fun _ _ _ h => h) (Or.inl ⟨by rfl, ?he5⟩) HQ7.out.drew ?re5
        case he5 => (intro wz hSw; obtain ⟨c0, c1, c2, c3, c4, c5, c6, c7, c8⟩ := hSw.cells; go_simp <;> with_reducible rfl)
        (try simp only [Act.put, List.setIfInBounds_toArray, List.set_cons_zero, List.set_cons_succ])
        refine wpAnyH_take (i := 7) (oi := ⟨some 71, Op.load 23 (Operand.tmp 6), 23, _, _, some (3, false)⟩) (v := ?ve7) rfl (by kernel_rfl) (by kernel_rfl) (by kernel_rfl) (fun _ _ _ h => h) (Or.inl ⟨by rfl, ?he7⟩) HQ7.out.drew ?re7
        case he7 => (intro wz hSw; obtain ⟨c0, c1, c2, c3, c4, c5, c6, c7, c8⟩ := hSw.cells; go_simp <;> with_reducible rfl)
        (try simp only [Act.put, List.setIfInBounds_toArray, List.set_cons_zero, List.set_cons_succ])
        refine wpAnyH_take (i := 8) (oi := ⟨some 72, Op.load 23 (Operand.tmp 7), 23, _, _, some (3, false)⟩) (v := ?ve8) rfl (by kernel_rfl) (by kernel_rfl) (by kernel_rfl) (fun _ _ _ h => h) (Or.inl ⟨by rfl, ?he8⟩) HQ7.out.drew ?re8
        case he8 => (intro wz hSw; obtain ⟨c0, c1, c2, c3, c4, c5, c6, c7, c8⟩ := hSw.cells; go_simp <;> with_reducible rfl)
        (try simp only [Act.put, List.setIfInBounds_toArray, List.set_cons_zero, List.set_cons_succ])
        refine wpAnyH_take (i := 10) (oi := ⟨some 74, Op.move (Operand.tmp 14), 3, _, _, some (3, false)⟩) (v := ?ve10) rfl (by kernel_rfl) (by kernel_rfl) (by kernel_rfl) (fun _ _ _ h => h) (Or.inl ⟨by rfl, ?he10⟩) HQ7.out.drew ?re10
        case he10 => (intro wz hSw; go_simp <;> with_reducible rfl)
        (try simp only [Act.put, List.setIfInBounds_toArray, List.set_cons_zero, List.set_cons_succ])
        refine wpAnyH_ready (rs := [6]) (by kernel_rfl) (by simp) ?_
        refine AllReadyH.cons (o := ⟨some 70, Op.call { callee := Callee.value (Operand.func 10), args := #[Operand.tmp 68, Operand.tmp 69], argTypes := #[23, 23] }, 3, _, _, some (3, false)⟩) rfl (fun K hK => ?_) AllReadyH.nil
        go_simp
        (with_reducible refine (S2.out _).mono ?_); rintro e w8 ⟨rfl, hB8⟩; have HQ8 := Lib.hid (HQ7.out.drew.of hB8)
        refine hK.out _ _ HQ8.out (fun _ => ?_)
        clear hK K
        (try simp only [Act.put, List.setIfInBounds_toArray, List.set_cons_zero, List.set_cons_succ])
        refine wpAnyH_ready (rs := [9]) (by kernel_rfl) (by simp) ?_
        refine AllReadyH.cons (o := ⟨some 73, Op.call { callee := Callee.value (Operand.func 10), args := #[Operand.tmp 71, Operand.tmp 72], argTypes := #[23, 23] }, 3, _, _, some (3, false)⟩) rfl (fun K hK => ?_) AllReadyH.nil
        go_simp
        (with_reducible refine (S3.out _).mono ?_); rintro e w9 ⟨rfl, hB9⟩; have HQ9 := Lib.hid (HQ8.out.of hB9)
        refine hK.out _ _ HQ9.out (fun _ => ?_)
        clear hK K
        (try simp only [Act.put, List.setIfInBounds_toArray, List.set_cons_zero, List.set_cons_succ])
        refine wpAnyH_take (i := 11) (oi := ⟨some 75, Op.binOp BinOp.sub 3 (Operand.tmp 73) (Operand.tmp 74) 3, 3, _, _, some (3, false)⟩) (v := ?ve11) rfl (by kernel_rfl) (by kernel_rfl) (by kernel_rfl) (fun _ _ _ h => h) (Or.inl ⟨by rfl, ?he11⟩) HQ9.out ?re11
        case he11 => (intro wz hSw; go_simp <;> with_reducible rfl)
        (try simp only [Act.put, List.setIfInBounds_toArray, List.set_cons_zero, List.set_cons_succ])
        refine wpAnyH_take (i := 12) (oi := ⟨some 76, Op.binOp BinOp.neq 3 (Operand.tmp 70) (Operand.tmp 75) 3, 4, _, _, some (3, false)⟩) (v := .bool false) rfl (by kernel_rfl) (by kernel_rfl) (by kernel_rfl) (fun _ _ _ h => h) (Or.inl ⟨by rfl, ?he12⟩) HQ9.out ?re12
        case he12 => (intro wz hSw; go_simp <;> with_reducible rfl)
        (try simp only [Act.put, List.setIfInBounds_toArray, List.set_cons_zero, List.set_cons_succ])
        refine wpAnyH_take (i := 13) (oi := ⟨some 77, Op.pick (Operand.tmp 67) (Operand.const (Value.bool true)) (Operand.tmp 76), 4, _, _, none⟩) (v := ?ve13) rfl (by kernel_rfl) (by kernel_rfl) (by kernel_rfl) (fun _ _ _ h => h) (Or.inl ⟨by rfl, ?he13⟩) HQ9.out ?re13
        case he13 => (intro wz hSw; go_simp <;> with_reducible rfl)
        (try simp only [Act.put, List.setIfInBounds_toArray, List.set_cons_zero, List.set_cons_succ])
        refine wpAnyH_take (i := 14) (oi := ⟨some 78, Op.move (Operand.tmp 77), 4, _, _, none⟩) (v := ?ve14) rfl (by kernel_rfl) (by kernel_rfl) (by kernel_rfl) (fun _ _ _ h => h) (Or.inl ⟨by rfl, ?he14⟩) HQ9.out ?re14
        case he14 => (intro wz hSw; go_simp <;> with_reducible rfl)
        (try simp only [Act.put, List.setIfInBounds_toArray, List.set_cons_zero, List.set_cons_succ])
        refine wpAnyH_take (i := 15) (oi := ⟨some 79, Op.load 23 (Operand.tmp 13), 23, _, _, some (14, false)⟩) (v := ?ve15) rfl (by kernel_rfl) (by kernel_rfl) (by kernel_rfl) (fun _ _ _ h => h) (Or.inl ⟨by rfl, ?he15⟩) HQ9.out ?re15
        case he15 => (intro wz hSw; obtain ⟨c0, c1, c2, c3, c4, c5, c6, c7, c8⟩ := hSw.cells; go_simp <;> with_reducible rfl)
        (try simp only [Act.put, List.setIfInBounds_toArray, List.set_cons_zero, List.set_cons_succ])
        refine wpAnyH_take (i := 16) (oi := ⟨some 80, Op.load 23 (Operand.tmp 6), 23, _, _, some (14, false)⟩) (v := ?ve16) rfl (by kernel_rfl) (by kernel_rfl) (by kernel_rfl) (fun _ _ _ h => h) (Or.inl ⟨by rfl, ?he16⟩) HQ9.out ?re16
        case he16 => (intro wz hSw; obtain ⟨c0, c1, c2, c3, c4, c5, c6, c7, c8⟩ := hSw.cells; go_simp <;> with_reducible rfl)
        (try simp only [Act.put, List.setIfInBounds_toArray, List.set_cons_zero, List.set_cons_succ])
        refine wpAnyH_take (i := 17) (oi := ⟨some 81, Op.binOp BinOp.neq 23 (Operand.tmp 79) (Operand.tmp 80) 23, 4, _, _, some (14, false)⟩) (v := .bool false) rfl (by kernel_rfl) (by kernel_rfl) (by kernel_rfl) (fun _ _ _ h => h) (Or.inl ⟨by rfl, ?he17⟩) HQ9.out ?re17
        case he17 => (intro wz hSw; go_simp <;> with_reducible rfl)
        (try simp only [Act.put, List.setIfInBounds_toArray, List.set_cons_zero, List.set_cons_succ])
        refine wpAnyH_take (i := 18) (oi := ⟨some 82, Op.move (Operand.tmp 81), 4, _, _, some (14, false)⟩) (v := ?ve18) rfl (by kernel_rfl) (by kernel_rfl) (by kernel_rfl) (fun _ _ _ h => h) (Or.inl ⟨by rfl, ?he18⟩) HQ9.out ?re18
        case he18 => (intro wz hSw; go_simp <;> with_reducible rfl)
        (try simp only [Act.put, List.setIfInBounds_toArray, List.set_cons_zero, List.set_cons_succ])
        refine wpAnyH_take (i := 19) (oi := ⟨some 83, Op.load 29 (Operand.tmp 5), 29, _, _, some (18, true)⟩) (v := undef) rfl (by kernel_rfl) (by kernel_rfl) (by kernel_rfl) (fun _ _ _ h => h) (Or.inr ⟨by rfl, rfl⟩) HQ9.out ?re19
        (try simp only [Act.put, List.setIfInBounds_toArray, List.set_cons_zero, List.set_cons_succ])
        refine wpAnyH_take (i := 20) (oi := ⟨some 84, Op.load 23 (Operand.tmp 13), 23, _, _, some (18, true)⟩) (v := undef) rfl (by kernel_rfl) (by kernel_rfl) (by kernel_rfl) (fun _ _ _ h => h) (Or.inr ⟨by rfl, rfl⟩) HQ9.out ?re20
        (try simp only [Act.put, List.setIfInBounds_toArray, List.set_cons_zero, List.set_cons_succ])
        refine wpAnyH_take (i := 21) (oi := ⟨some 85, Op.call { callee := Callee.value (Operand.func 18), args := #[Operand.tmp 83, Operand.tmp 84], argTypes := #[29, 23] }, 4, _, _, some (18, true)⟩) (v := undef) rfl (by kernel_rfl) (by kernel_rfl) (by kernel_rfl) (fun _ _ _ h => h) (Or.inr ⟨by rfl, rfl⟩) HQ9.out ?re21
        (try simp only [Act.put, List.setIfInBounds_toArray, List.set_cons_zero, List.set_cons_succ])
        refine wpAnyH_take (i := 22) (oi := ⟨some 86, Op.pick (Operand.tmp 82) (Operand.tmp 85) (Operand.const (Value.bool false)), 4, _, _, some (14, false)⟩) (v := ?ve22) rfl (by kernel_rfl) (by kernel_rfl) (by kernel_rfl) (fun _ _ _ h => h) (Or.inl ⟨by rfl, ?he22⟩) HQ9.out ?re22
        case he22 => (intro wz hSw; go_simp <;> with_reducible rfl)
        (try simp only [Act.put, List.setIfInBounds_toArray, List.set_cons_zero, List.set_cons_succ])
        refine wpAnyH_take (i := 23) (oi := ⟨some 87, Op.pick (Operand.tmp 78) (Operand.const (Value.bool true)) (Operand.tmp 86), 4, _, _, none⟩) (v := ?ve23) rfl (by kernel_rfl) (by kernel_rfl) (by kernel_rfl) (fun _ _ _ h => h) (Or.inl ⟨by rfl, ?he23⟩) HQ9.out ?re23
        case he23 => (intro wz hSw; go_simp <;> with_reducible rfl)
        (try simp only [Act.put, List.setIfInBounds_toArray, List.set_cons_zero, List.set_cons_succ])
        refine wpAnyH_take (i := 24) (oi := ⟨some 88, Op.move (Operand.tmp 87), 4, _, _, none⟩) (v := ?ve24) rfl (by kernel_rfl) (by kernel_rfl) (by kernel_rfl) (fun _ _ _ h => h) (Or.inl ⟨by rfl, ?he24⟩) HQ9.out ?re24
        case he24 => (intro wz hSw; go_simp <;> with_reducible rfl)
        (try simp only [Act.put, List.setIfInBounds_toArray, List.set_cons_zero, List.set_cons_succ])
        refine wpAnyH_take (i := 25) (oi := ⟨some 89, Op.load 29 (Operand.tmp 5), 29, _, _, some (24, false)⟩) (v := ?ve25) rfl (by kernel_rfl) (by kernel_rfl) (by kernel_rfl) (fun _ _ _ h => h) (Or.inl ⟨by rfl, ?he25⟩) HQ9.out ?re25
        case he25 => (intro wz hSw; obtain ⟨c0, c1, c2, c3, c4, c5, c6, c7, c8⟩ := hSw.cells; go_simp <;> with_reducible rfl)
        (try simp only [Act.put, List.setIfInBounds_toArray, List.set_cons_zero, List.set_cons_succ])
        refine wpAnyH_take (i := 26) (oi := ⟨some 90, Op.load 23 (Operand.tmp 13), 23, _, _, some (24, false)⟩) (v := ?ve26) rfl (by kernel_rfl) (by kernel_rfl) (by kernel_rfl) (fun _ _ _ h => h) (Or.inl ⟨by rfl, ?he26⟩) HQ9.out ?re26
        case he26 => (intro wz hSw; obtain ⟨c0, c1, c2, c3, c4, c5, c6, c7, c8⟩ := hSw.cells; go_simp <;> with_reducible rfl)
        (try simp only [Act.put, List.setIfInBounds_toArray, List.set_cons_zero, List.set_cons_succ])
        refine wpAnyH_ready (rs := [27]) (by kernel_rfl) (by simp) ?_
        refine AllReadyH.cons (o := ⟨some 91, Op.call { callee := Callee.value (Operand.func 17), args := #[Operand.tmp 89, Operand.tmp 90], argTypes := #[29, 23] }, 4, _, _, some (24, false)⟩) rfl (fun K hK => ?_) AllReadyH.nil
        go_simp
        (with_reducible refine (I3.out _).mono ?_); rintro e w11 ⟨rfl, hB11⟩; have HQ11 := Lib.hid (HQ9.out.of hB11)
        refine hK.out _ _ HQ11.out (fun _ => ?_)
        clear hK K
        (try simp only [Act.put, List.setIfInBounds_toArray, List.set_cons_zero, List.set_cons_succ])
        refine wpAnyH_take (i := 28) (oi := ⟨some 92, Op.unOp UnOp.not 4 (Operand.tmp 91), 4, _, _, some (24, false)⟩) (v := ?ve28) rfl (by kernel_rfl) (by kernel_rfl) (by kernel_rfl) (fun _ _ _ h => h) (Or.inl ⟨by rfl, ?he28⟩) HQ11.out ?re28
        case he28 => (intro wz hSw; go_simp <;> with_reducible rfl)
        (try simp only [Act.put, List.setIfInBounds_toArray, List.set_cons_zero, List.set_cons_succ])
        refine wpAnyH_take (i := 29) (oi := ⟨some 93, Op.pick (Operand.tmp 88) (Operand.const (Value.bool true)) (Operand.tmp 92), 4, _, _, none⟩) (v := ?ve29) rfl (by kernel_rfl) (by kernel_rfl) (by kernel_rfl) (fun _ _ _ h => h) (Or.inl ⟨by rfl, ?he29⟩) HQ11.out ?re29
        case he29 => (intro wz hSw; go_simp <;> with_reducible rfl)
        (try simp only [Act.put, List.setIfInBounds_toArray, List.set_cons_zero, List.set_cons_succ])
        refine wpAnyH_done (by kernel_rfl) ?_ _
        refine NoPanic.normal ?_
        exact ⟨_, _, _, _, _, _, _, _, _, _, _, _, _, _, _, _, _, _, _, _, _, _, _, _, _, _, _, _, _, rfl, HQ11.out, rfl⟩
      · have hw := hwp.out (fun h => hy h.2)
        have hy' : (py == ay) = false := by simpa using hy
        subst hw
        subst hx
        have K0 := HQ7.out.cells
        go_region_held3 (fun V => V.cell? ⟨W.heap.size, 0, none⟩ = some (.int .i64 gw) ∧ V.cell? ⟨W.heap.size, 1, none⟩ = some (.int .i64 gh) ∧ V.cell? ⟨W.heap.size, 2, none⟩ = some (.slice A l.length c) ∧ V.cell? ⟨W.heap.size + 1, 0, none⟩ = some (.int .i64 px) ∧ V.cell? ⟨W.heap.size + 1, 1, none⟩ = some (.int .i64 ay) ∧ V.cell? ⟨W.heap.size + 1 + 1, 0, none⟩ = some (.int .i64 bx) ∧ V.cell? ⟨W.heap.size + 1 + 1, 1, none⟩ = some (.int .i64 by') ∧ V.cell? ⟨P, 0, none⟩ = some (.int .i64 px) ∧ V.cell? ⟨P, 1, none⟩ = some (.int .i64 py))
          (first | exact K0 | exact K1 | exact K2 | exact K3 | exact K4 | go_keep)
          ((first
          | ((with_reducible refine (S2.out _).mono ?_); rintro e w8 ⟨rfl, hB8⟩; have HQ8 := Lib.hid (HQ7.out.drew.of hB8); have K1 := HQ8.out.cells)
          | ((with_reducible refine (S3.out _).mono ?_); rintro e w9 ⟨rfl, hB9⟩; have HQ9 := Lib.hid (HQ8.out.of hB9); have K2 := HQ9.out.cells)
          | ((with_reducible refine (TW.out _ HQ9.out.g).mono ?_); rintro e w10 ⟨rfl, hB10⟩; have HQ10 := Lib.hid (HQ9.out.of hB10); have K3 := HQ10.out.cells)
          | ((with_reducible refine (I3.out _).mono ?_); rintro e w11 ⟨rfl, hB11⟩; have HQ11 := Lib.hid (HQ10.out.of hB11); have K4 := HQ11.out.cells)))
        exact ⟨_, _, _, _, _, _, _, _, _, _, _, _, _, _, _, _, _, _, _, _, _, _, _, _, _, _, _, _, _, rfl, HQ11.out, rfl⟩
    · have hw := hwp.out (fun h => hx h.1)
      have hx' : (px == ax) = false := by simpa using hx
      subst hw
      have K0 := HQ7.out.cells
      go_region_held3 (fun V => V.cell? ⟨W.heap.size, 0, none⟩ = some (.int .i64 gw) ∧ V.cell? ⟨W.heap.size, 1, none⟩ = some (.int .i64 gh) ∧ V.cell? ⟨W.heap.size, 2, none⟩ = some (.slice A l.length c) ∧ V.cell? ⟨W.heap.size + 1, 0, none⟩ = some (.int .i64 ax) ∧ V.cell? ⟨W.heap.size + 1, 1, none⟩ = some (.int .i64 ay) ∧ V.cell? ⟨W.heap.size + 1 + 1, 0, none⟩ = some (.int .i64 bx) ∧ V.cell? ⟨W.heap.size + 1 + 1, 1, none⟩ = some (.int .i64 by') ∧ V.cell? ⟨P, 0, none⟩ = some (.int .i64 px) ∧ V.cell? ⟨P, 1, none⟩ = some (.int .i64 py))
        (first | exact K0 | exact K1 | exact K2 | exact K3 | exact K4 | go_keep)
        ((first
        | ((with_reducible refine (S2.out _).mono ?_); rintro e w8 ⟨rfl, hB8⟩; have HQ8 := Lib.hid (HQ7.out.drew.of hB8); have K1 := HQ8.out.cells)
        | ((with_reducible refine (S3.out _).mono ?_); rintro e w9 ⟨rfl, hB9⟩; have HQ9 := Lib.hid (HQ8.out.of hB9); have K2 := HQ9.out.cells)
        | ((with_reducible refine (TW.out _ HQ9.out.g).mono ?_); rintro e w10 ⟨rfl, hB10⟩; have HQ10 := Lib.hid (HQ9.out.of hB10); have K3 := HQ10.out.cells)
        | ((with_reducible refine (I3.out _).mono ?_); rintro e w11 ⟨rfl, hB11⟩; have HQ11 := Lib.hid (HQ10.out.of hB11); have K4 := HQ11.out.cells)))
      exact ⟨_, _, _, _, _, _, _, _, _, _, _, _, _, _, _, _, _, _, _, _, _, _, _, _, _, _, _, _, _, rfl, HQ11.out, rfl⟩
  case post9 =>
    rintro e a' w8 ⟨u64, u65, u66, u67, u68, u69, u70, u71, u72, u73, u74, u75, u76, u77, u78, u79, u80, u81, u82, u83, u84, u85, u86, u87, u88, u89, u90, u91, u92, rfl, hQ, rfl⟩
    have HQ := Lib.hid hQ; clear hQ HG1 HG2 HG3 HG4 HP4 HQ5 HQ6 HQ7 kn kn2 sk
    obtain ⟨k0, k1, k2, k3, k4, k5, k6, k7, k8⟩ := HQ.out.cells
    go_upto_region 13 with (first
      | ((with_reducible refine (T2.out _ HQ.out.g).mono ?_); rintro e w12 ⟨rfl, hB12⟩; have HQ12 := Lib.hid ((HQ.out.of hB12).of ((Below.refl _ _).alloc (Nat.le_refl _) (.cells #[.int .i64 qx, .int .i64 qy] 23))); have HR1 := Lib.hid (BoxP.new w12 qx qy); clear k0 k1 k2 k3 k4 k5 k6 k7 k8; obtain ⟨k0, k1, k2, k3, k4, k5, k6, k7, k8⟩ := HQ12.out.cells; clear hB12)
      | ((with_reducible refine (T3.out _ HQ12.out.g).mono ?_); rintro e w13 ⟨rfl, hB13⟩; have HQ13 := Lib.hid ((HQ12.out.of hB13).of ((Below.refl _ _).alloc (Nat.le_refl _) (.cells #[.int .i64 ux, .int .i64 uy] 23))); have HR2 := Lib.hid (old_at (o2 := .cells #[.int .i64 ux, .int .i64 uy] 23) (HR1.out.kept (hB13.block _ HR1.out.lt))); have HR3 := Lib.hid (BoxP.new w13 ux uy); clear k0 k1 k2 k3 k4 k5 k6 k7 k8; obtain ⟨k0, k1, k2, k3, k4, k5, k6, k7, k8⟩ := HQ13.out.cells; clear hB13))
    have n0 := HR3.out.cell0
    have n1 := HR3.out.cell1
    generalize w12.heap.size = Pq at HR1 HR2 ⊢
    generalize hPn : w13.heap.size = Pn at HR3 n0 n1 ⊢
    generalize w13.alloc (.cells #[.int .i64 ux, .int .i64 uy] 23) = w14 at HQ13 HR2 HR3 k0 k1 k2 k3 k4 k5 k6 k7 k8 n0 n1 ⊢
    clear hPn HQ12 HR1 HQ
    refine Code.wp_mono (Q := Post13 gw gh A l c ax ay bx by' px py qx qy ux uy k n m P Pq Pn W u64 u65 u66 u67 u68 u69 u70 u71 u72 u73 u74 u75 u76 u77 u78 u79 u80 u81 u82 u83 u84 u85 u86 u87 u88 u89 u90 u91 u92) ?post13 ?reg13
    case reg13 =>
      by_cases h1 : px = bx
      · by_cases h2 : py = by'
        · have e1 := h1.symm
          have e2 := h2.symm
          subst e1
          subst e2
          go_wp2
          exact ⟨_, _, _, _, _, _, _, _, _, rfl, HQ13.out, HR2.out, .inr rfl, rfl⟩
        · have h2' : (py == by') = false := by simpa using h2
          have e1 := h1.symm
          subst e1
          by_cases h3 : ux = bx
          · by_cases h4 : uy = py
            · have e3 := h3.symm
              have e4 := h4.symm
              subst h3
              subst h4
              go_wp2
              exact ⟨_, _, _, _, _, _, _, _, _, rfl, HQ13.out, HR2.out, .inr rfl, rfl⟩
            · have h4' : (uy == py) = false := by simpa using h4
              subst h3
              go_wp2
              exact ⟨_, _, _, _, _, _, _, _, _, rfl, HQ13.out, HR2.out, .inl (hends.out.elim id (fun h => h.elim (fun h => ((fun q => h2 q.2) h).elim) (fun h => ((fun q => h4 q.2) h).elim))), rfl⟩
          · have h3' : (ux == bx) = false := by simpa using h3
            go_wp2
            exact ⟨_, _, _, _, _, _, _, _, _, rfl, HQ13.out, HR2.out, .inl (hends.out.elim id (fun h => h.elim (fun h => ((fun q => h2 q.2) h).elim) (fun h => ((fun q => h3 q.1) h).elim))), rfl⟩
      · have h1' : (px == bx) = false := by simpa using h1
        by_cases h3 : ux = px
        · by_cases h4 : uy = py
          · have e3 := h3.symm
            have e4 := h4.symm
            subst h3
            subst h4
            go_wp2
            exact ⟨_, _, _, _, _, _, _, _, _, rfl, HQ13.out, HR2.out, .inr rfl, rfl⟩
          · have h4' : (uy == py) = false := by simpa using h4
            subst h3
            go_wp2
            exact ⟨_, _, _, _, _, _, _, _, _, rfl, HQ13.out, HR2.out, .inl (hends.out.elim id (fun h => h.elim (fun h => ((fun q => h1 q.1) h).elim) (fun h => ((fun q => h4 q.2) h).elim))), rfl⟩
        · have h3' : (ux == px) = false := by simpa using h3
          go_wp2
          exact ⟨_, _, _, _, _, _, _, _, _, rfl, HQ13.out, HR2.out, .inl (hends.out.elim id (fun h => h.elim (fun h => ((fun q => h1 q.1) h).elim) (fun h => ((fun q => h3 q.1) h).elim))), rfl⟩
    case post13 =>
      rintro e a' w15 ⟨u103, u104, u105, u106, u107, u108, u109, u110, st, rfl, hQ, hR, hst, rfl⟩
      clear k0 k1 k2 k3 k4 k5 k6 k7 k8 n0 n1 HQ13 HR2 HR3
      have HQx := Lib.hid (QAt.mk hQ hR)
      clear hQ hR
      go_wp2
      have nm := NM.out
      by_cases hkn : k = n
      · subst hkn
        by_cases hz : k = 0
        · have hz' : (k != 0) = false := by simpa using hz
          obtain ⟨e1, e2⟩ := hnone.out hz
          subst e1
          subst e2
          have HZ := Lib.hid hz; clear hz
          refine wp_region_noPanic ?_
          refine wp_region_held_drew (S := QAt gw gh A l.length c px py bx by' px py qx qy P Pq W) (by kernel_rfl) HQx.out.drew (fun _ => ?_)
          refine wpAnyH_take (i := 0) (oi := ⟨some 111, Op.move (Operand.tmp 11), 4, _, _, none⟩) (v := ?vp0) rfl (by kernel_rfl) (by kernel_rfl) (by kernel_rfl) (fun _ _ _ h => h) (Or.inl ⟨by rfl, ?hp0⟩) HQx.out.drew ?rp0
          case hp0 => (intro wz hSw; go_simp <;> with_reducible rfl)
          (try simp only [Act.put, List.setIfInBounds_toArray, List.set_cons_zero, List.set_cons_succ])
          refine wpAnyH_take (i := 1) (oi := ⟨some 112, Op.move (Operand.tmp 111), 4, _, _, none⟩) (v := ?vp1) rfl (by kernel_rfl) (by kernel_rfl) (by kernel_rfl) (fun _ _ _ h => h) (Or.inl ⟨by rfl, ?hp1⟩) HQx.out.drew ?rp1
          case hp1 => (intro wz hSw; go_simp <;> with_reducible rfl)
          (try simp only [Act.put, List.setIfInBounds_toArray, List.set_cons_zero, List.set_cons_succ])
          refine wpAnyH_take (i := 2) (oi := ⟨some 113, Op.load 23 (Operand.tmp 15), 23, _, _, some (1, true)⟩) (v := ?vp2) rfl (by kernel_rfl) (by kernel_rfl) (by kernel_rfl) (fun _ _ _ h => h) (Or.inl ⟨by rfl, ?hp2⟩) HQx.out.drew ?rp2
          case hp2 => (intro wz hSw; obtain ⟨c0, c1, c2, c3, c4, c5, c6, c7, c8, c9, c10⟩ := hSw.cells; go_simp <;> with_reducible rfl)
          (try simp only [Act.put, List.setIfInBounds_toArray, List.set_cons_zero, List.set_cons_succ])
          refine wpAnyH_take (i := 3) (oi := ⟨some 114, Op.load 29 (Operand.tmp 5), 29, _, _, some (1, true)⟩) (v := ?vp3) rfl (by kernel_rfl) (by kernel_rfl) (by kernel_rfl) (fun _ _ _ h => h) (Or.inl ⟨by rfl, ?hp3⟩) HQx.out.drew ?rp3
          case hp3 => (intro wz hSw; obtain ⟨c0, c1, c2, c3, c4, c5, c6, c7, c8, c9, c10⟩ := hSw.cells; go_simp <;> with_reducible rfl)
          (try simp only [Act.put, List.setIfInBounds_toArray, List.set_cons_zero, List.set_cons_succ])
          refine wpAnyH_take (i := 4) (oi := ⟨some 115, Op.load 23 (Operand.tmp 6), 23, _, _, some (1, true)⟩) (v := ?vp4) rfl (by kernel_rfl) (by kernel_rfl) (by kernel_rfl) (fun _ _ _ h => h) (Or.inl ⟨by rfl, ?hp4⟩) HQx.out.drew ?rp4
          case hp4 => (intro wz hSw; obtain ⟨c0, c1, c2, c3, c4, c5, c6, c7, c8, c9, c10⟩ := hSw.cells; go_simp <;> with_reducible rfl)
          (try simp only [Act.put, List.setIfInBounds_toArray, List.set_cons_zero, List.set_cons_succ])
          refine wpAnyH_take (i := 5) (oi := ⟨some 116, Op.load 23 (Operand.tmp 7), 23, _, _, some (1, true)⟩) (v := ?vp5) rfl (by kernel_rfl) (by kernel_rfl) (by kernel_rfl) (fun _ _ _ h => h) (Or.inl ⟨by rfl, ?hp5⟩) HQx.out.drew ?rp5
          case hp5 => (intro wz hSw; obtain ⟨c0, c1, c2, c3, c4, c5, c6, c7, c8, c9, c10⟩ := hSw.cells; go_simp <;> with_reducible rfl)
          (try simp only [Act.put, List.setIfInBounds_toArray, List.set_cons_zero, List.set_cons_succ])
          refine wpAnyH_take (i := 6) (oi := ⟨some 117, Op.move (Operand.tmp 3), 3, _, _, some (1, true)⟩) (v := ?vp6) rfl (by kernel_rfl) (by kernel_rfl) (by kernel_rfl) (fun _ _ _ h => h) (Or.inl ⟨by rfl, ?hp6⟩) HQx.out.drew ?rp6
          case hp6 => (intro wz hSw; go_simp <;> with_reducible rfl)
          (try simp only [Act.put, List.setIfInBounds_toArray, List.set_cons_zero, List.set_cons_succ])
          refine wpAnyH_take (i := 7) (oi := ⟨some 118, Op.move (Operand.tmp 4), 3, _, _, some (1, true)⟩) (v := ?vp7) rfl (by kernel_rfl) (by kernel_rfl) (by kernel_rfl) (fun _ _ _ h => h) (Or.inl ⟨by rfl, ?hp7⟩) HQx.out.drew ?rp7
          case hp7 => (intro wz hSw; go_simp <;> with_reducible rfl)
          (try simp only [Act.put, List.setIfInBounds_toArray, List.set_cons_zero, List.set_cons_succ])
          refine wpAnyH_take (i := 8) (oi := ⟨some 119, Op.binOp BinOp.add 3 (Operand.tmp 117) (Operand.tmp 118) 3, 3, _, _, some (1, true)⟩) (v := ?vp8) rfl (by kernel_rfl) (by kernel_rfl) (by kernel_rfl) (fun _ _ _ h => h) (Or.inl ⟨by rfl, ?hp8⟩) HQx.out.drew ?rp8
          case hp8 => (intro wz hSw; go_simp <;> with_reducible rfl)
          (try simp only [Act.put, List.setIfInBounds_toArray, List.set_cons_zero, List.set_cons_succ])
          refine wpAnyH_ready (rs := [9]) (by kernel_rfl) (by simp) ?_
          refine AllReadyH.cons (o := ⟨some 120, Op.call { callee := Callee.value (Operand.func 15), args := #[Operand.tmp 114, Operand.tmp 115, Operand.tmp 116, Operand.tmp 119], argTypes := #[29, 23, 23, 3] }, 23, _, _, some (1, true)⟩) rfl (fun K hK => ?_) AllReadyH.nil
          go_simp
          (with_reducible refine (T4.out _ HQx.out.gg.drew).mono ?_); rintro e w16 ⟨rfl, hB16⟩; have HQ16 := Lib.hid (HQx.out.drew.of hB16)
          refine hK.out _ _ HQ16.out (fun _ => ?_)
          clear hK K
          (try simp only [Act.put, List.setIfInBounds_toArray, List.set_cons_zero, List.set_cons_succ])
          refine wpAnyH_take (i := 10) (oi := ⟨some 121, Op.binOp BinOp.eql 23 (Operand.tmp 113) (Operand.tmp 120) 23, 4, _, _, some (1, true)⟩) (v := .bool true) rfl (by kernel_rfl) (by kernel_rfl) (by kernel_rfl) (fun _ _ _ h => h) (Or.inl ⟨by rfl, ?hp10⟩) HQ16.out ?rp10
          case hp10 => (intro wz hSw; go_simp <;> with_reducible rfl)
          (try simp only [Act.put, List.setIfInBounds_toArray, List.set_cons_zero, List.set_cons_succ])
          refine wpAnyH_take (i := 11) (oi := ⟨some 122, Op.pick (Operand.tmp 112) (Operand.tmp 121) (Operand.const (Value.bool false)), 4, _, _, none⟩) (v := ?vp11) rfl (by kernel_rfl) (by kernel_rfl) (by kernel_rfl) (fun _ _ _ h => h) (Or.inl ⟨by rfl, ?hp11⟩) HQ16.out ?rp11
          case hp11 => (intro wz hSw; go_simp <;> with_reducible rfl)
          (try simp only [Act.put, List.setIfInBounds_toArray, List.set_cons_zero, List.set_cons_succ])
          refine wpAnyH_take (i := 12) (oi := ⟨some 123, Op.move (Operand.tmp 122), 4, _, _, none⟩) (v := ?vp12) rfl (by kernel_rfl) (by kernel_rfl) (by kernel_rfl) (fun _ _ _ h => h) (Or.inl ⟨by rfl, ?hp12⟩) HQ16.out ?rp12
          case hp12 => (intro wz hSw; go_simp <;> with_reducible rfl)
          (try simp only [Act.put, List.setIfInBounds_toArray, List.set_cons_zero, List.set_cons_succ])
          refine wpAnyH_take (i := 13) (oi := ⟨some 124, Op.move (Operand.tmp 14), 3, _, _, some (12, true)⟩) (v := ?vp13) rfl (by kernel_rfl) (by kernel_rfl) (by kernel_rfl) (fun _ _ _ h => h) (Or.inl ⟨by rfl, ?hp13⟩) HQ16.out ?rp13
          case hp13 => (intro wz hSw; go_simp <;> with_reducible rfl)
          (try simp only [Act.put, List.setIfInBounds_toArray, List.set_cons_zero, List.set_cons_succ])
          refine wpAnyH_take (i := 14) (oi := ⟨some 125, Op.move (Operand.tmp 3), 3, _, _, some (12, true)⟩) (v := ?vp14) rfl (by kernel_rfl) (by kernel_rfl) (by kernel_rfl) (fun _ _ _ h => h) (Or.inl ⟨by rfl, ?hp14⟩) HQ16.out ?rp14
          case hp14 => (intro wz hSw; go_simp <;> with_reducible rfl)
          (try simp only [Act.put, List.setIfInBounds_toArray, List.set_cons_zero, List.set_cons_succ])
          refine wpAnyH_take (i := 15) (oi := ⟨some 126, Op.binOp BinOp.eql 3 (Operand.tmp 124) (Operand.tmp 125) 3, 4, _, _, some (12, true)⟩) (v := .bool true) rfl (by kernel_rfl) (by kernel_rfl) (by kernel_rfl) (fun _ _ _ h => h) (Or.inl ⟨by rfl, ?hp15⟩) HQ16.out ?rp15
          case hp15 => (intro wz hSw; go_simp <;> with_reducible rfl)
          (try simp only [Act.put, List.setIfInBounds_toArray, List.set_cons_zero, List.set_cons_succ])
          refine wpAnyH_take (i := 16) (oi := ⟨some 127, Op.move (Operand.tmp 126), 4, _, _, some (12, true)⟩) (v := ?vp16) rfl (by kernel_rfl) (by kernel_rfl) (by kernel_rfl) (fun _ _ _ h => h) (Or.inl ⟨by rfl, ?hp16⟩) HQ16.out ?rp16
          case hp16 => (intro wz hSw; go_simp <;> with_reducible rfl)
          (try simp only [Act.put, List.setIfInBounds_toArray, List.set_cons_zero, List.set_cons_succ])
          refine wpAnyH_take (i := 17) (oi := ⟨some 128, Op.move (Operand.tmp 17), 4, _, _, some (16, false)⟩) (v := undef) rfl (by kernel_rfl) (by kernel_rfl) (by kernel_rfl) (fun _ _ _ h => h) (Or.inr ⟨by rfl, rfl⟩) HQ16.out ?rp17
          (try simp only [Act.put, List.setIfInBounds_toArray, List.set_cons_zero, List.set_cons_succ])
          refine wpAnyH_take (i := 18) (oi := ⟨some 129, Op.pick (Operand.tmp 127) (Operand.const (Value.bool true)) (Operand.tmp 128), 4, _, _, some (12, true)⟩) (v := ?vp18) rfl (by kernel_rfl) (by kernel_rfl) (by kernel_rfl) (fun _ _ _ h => h) (Or.inl ⟨by rfl, ?hp18⟩) HQ16.out ?rp18
          case hp18 => (intro wz hSw; go_simp <;> with_reducible rfl)
          (try simp only [Act.put, List.setIfInBounds_toArray, List.set_cons_zero, List.set_cons_succ])
          refine wpAnyH_take (i := 19) (oi := ⟨some 130, Op.pick (Operand.tmp 123) (Operand.tmp 129) (Operand.const (Value.bool false)), 4, _, _, none⟩) (v := ?vp19) rfl (by kernel_rfl) (by kernel_rfl) (by kernel_rfl) (fun _ _ _ h => h) (Or.inl ⟨by rfl, ?hp19⟩) HQ16.out ?rp19
          case hp19 => (intro wz hSw; go_simp <;> with_reducible rfl)
          (try simp only [Act.put, List.setIfInBounds_toArray, List.set_cons_zero, List.set_cons_succ])
          refine wpAnyH_take (i := 20) (oi := ⟨some 131, Op.move (Operand.tmp 130), 4, _, _, none⟩) (v := ?vp20) rfl (by kernel_rfl) (by kernel_rfl) (by kernel_rfl) (fun _ _ _ h => h) (Or.inl ⟨by rfl, ?hp20⟩) HQ16.out ?rp20
          case hp20 => (intro wz hSw; go_simp <;> with_reducible rfl)
          (try simp only [Act.put, List.setIfInBounds_toArray, List.set_cons_zero, List.set_cons_succ])
          refine wpAnyH_take (i := 21) (oi := ⟨some 132, Op.move (Operand.tmp 3), 3, _, _, some (20, true)⟩) (v := ?vp21) rfl (by kernel_rfl) (by kernel_rfl) (by kernel_rfl) (fun _ _ _ h => h) (Or.inl ⟨by rfl, ?hp21⟩) HQ16.out ?rp21
          case hp21 => (intro wz hSw; go_simp <;> with_reducible rfl)
          (try simp only [Act.put, List.setIfInBounds_toArray, List.set_cons_zero, List.set_cons_succ])
          refine wpAnyH_take (i := 22) (oi := ⟨some 133, Op.binOp BinOp.neq 3 (Operand.tmp 132) (Operand.const (Value.int IntKind.i64 0)) 3, 4, _, _, some (20, true)⟩) (v := .bool false) rfl (by kernel_rfl) (by kernel_rfl) (by kernel_rfl) (fun _ _ _ h => h) (Or.inl ⟨by rfl, ?hp22⟩) HQ16.out ?rp22
          case hp22 => (intro wz hSw; go_simp <;> with_reducible rfl)
          (try simp only [Act.put, List.setIfInBounds_toArray, List.set_cons_zero, List.set_cons_succ])
          refine wpAnyH_take (i := 23) (oi := ⟨some 134, Op.move (Operand.tmp 133), 4, _, _, some (20, true)⟩) (v := ?vp23) rfl (by kernel_rfl) (by kernel_rfl) (by kernel_rfl) (fun _ _ _ h => h) (Or.inl ⟨by rfl, ?hp23⟩) HQ16.out ?rp23
          case hp23 => (intro wz hSw; go_simp <;> with_reducible rfl)
          (try simp only [Act.put, List.setIfInBounds_toArray, List.set_cons_zero, List.set_cons_succ])
          refine wpAnyH_take (i := 24) (oi := ⟨some 135, Op.load 23 (Operand.tmp 13), 23, _, _, some (23, false)⟩) (v := ?vp24) rfl (by kernel_rfl) (by kernel_rfl) (by kernel_rfl) (fun _ _ _ h => h) (Or.inl ⟨by rfl, ?hp24⟩) HQ16.out ?rp24
          case hp24 => (intro wz hSw; obtain ⟨c0, c1, c2, c3, c4, c5, c6, c7, c8, c9, c10⟩ := hSw.cells; go_simp <;> with_reducible rfl)
          (try simp only [Act.put, List.setIfInBounds_toArray, List.set_cons_zero, List.set_cons_succ])
          refine wpAnyH_take (i := 25) (oi := ⟨some 136, Op.load 23 (Operand.tmp 6), 23, _, _, some (23, false)⟩) (v := ?vp25) rfl (by kernel_rfl) (by kernel_rfl) (by kernel_rfl) (fun _ _ _ h => h) (Or.inl ⟨by rfl, ?hp25⟩) HQ16.out ?rp25
          case hp25 => (intro wz hSw; obtain ⟨c0, c1, c2, c3, c4, c5, c6, c7, c8, c9, c10⟩ := hSw.cells; go_simp <;> with_reducible rfl)
          (try simp only [Act.put, List.setIfInBounds_toArray, List.set_cons_zero, List.set_cons_succ])
          refine wpAnyH_take (i := 26) (oi := ⟨some 137, Op.binOp BinOp.eql 23 (Operand.tmp 135) (Operand.tmp 136) 23, 4, _, _, some (23, false)⟩) (v := .bool true) rfl (by kernel_rfl) (by kernel_rfl) (by kernel_rfl) (fun _ _ _ h => h) (Or.inl ⟨by rfl, ?hp26⟩) HQ16.out ?rp26
          case hp26 => (intro wz hSw; go_simp <;> with_reducible rfl)
          (try simp only [Act.put, List.setIfInBounds_toArray, List.set_cons_zero, List.set_cons_succ])
          refine wpAnyH_take (i := 27) (oi := ⟨some 138, Op.pick (Operand.tmp 134) (Operand.const (Value.bool true)) (Operand.tmp 137), 4, _, _, some (20, true)⟩) (v := ?vp27) rfl (by kernel_rfl) (by kernel_rfl) (by kernel_rfl) (fun _ _ _ h => h) (Or.inl ⟨by rfl, ?hp27⟩) HQ16.out ?rp27
          case hp27 => (intro wz hSw; go_simp <;> with_reducible rfl)
          (try simp only [Act.put, List.setIfInBounds_toArray, List.set_cons_zero, List.set_cons_succ])
          refine wpAnyH_take (i := 28) (oi := ⟨some 139, Op.pick (Operand.tmp 131) (Operand.tmp 138) (Operand.const (Value.bool false)), 4, _, _, none⟩) (v := ?vp28) rfl (by kernel_rfl) (by kernel_rfl) (by kernel_rfl) (fun _ _ _ h => h) (Or.inl ⟨by rfl, ?hp28⟩) HQ16.out ?rp28
          case hp28 => (intro wz hSw; go_simp <;> with_reducible rfl)
          (try simp only [Act.put, List.setIfInBounds_toArray, List.set_cons_zero, List.set_cons_succ])
          refine wpAnyH_take (i := 29) (oi := ⟨some 10, Op.assign (Operand.tmp 139), 4, _, _, none⟩) (v := ?vp29) rfl (by kernel_rfl) (by kernel_rfl) (by kernel_rfl) (fun _ _ _ h => h) (Or.inl ⟨by rfl, ?hp29⟩) HQ16.out ?rp29
          case hp29 => (intro wz hSw; go_simp <;> with_reducible rfl)
          (try simp only [Act.put, List.setIfInBounds_toArray, List.set_cons_zero, List.set_cons_succ])
          refine wpAnyH_done (by kernel_rfl) ?_ _
          refine NoPanic.normal ?_
          go_wp2
          go_ret
          exact ⟨rfl, HQ16.out.gg.below⟩
        · have hz' : (k != 0) = true := by simpa using hz
          refine wp_region_noPanic ?_
          refine wp_region_held_drew (S := QAt gw gh A l.length c ax ay bx by' px py qx qy P Pq W) (by kernel_rfl) HQx.out.drew (fun _ => ?_)
          refine wpAnyH_take (i := 0) (oi := ⟨some 111, Op.move (Operand.tmp 11), 4, _, _, none⟩) (v := ?vf0) rfl (by kernel_rfl) (by kernel_rfl) (by kernel_rfl) (fun _ _ _ h => h) (Or.inl ⟨by rfl, ?hf0⟩) HQx.out.drew ?rf0
          case hf0 => (intro wz hSw; go_simp <;> with_reducible rfl)
          (try simp only [Act.put, List.setIfInBounds_toArray, List.set_cons_zero, List.set_cons_succ])
          refine wpAnyH_take (i := 1) (oi := ⟨some 112, Op.move (Operand.tmp 111), 4, _, _, none⟩) (v := ?vf1) rfl (by kernel_rfl) (by kernel_rfl) (by kernel_rfl) (fun _ _ _ h => h) (Or.inl ⟨by rfl, ?hf1⟩) HQx.out.drew ?rf1
          case hf1 => (intro wz hSw; go_simp <;> with_reducible rfl)
          (try simp only [Act.put, List.setIfInBounds_toArray, List.set_cons_zero, List.set_cons_succ])
          refine wpAnyH_take (i := 2) (oi := ⟨some 113, Op.load 23 (Operand.tmp 15), 23, _, _, some (1, true)⟩) (v := ?vf2) rfl (by kernel_rfl) (by kernel_rfl) (by kernel_rfl) (fun _ _ _ h => h) (Or.inl ⟨by rfl, ?hf2⟩) HQx.out.drew ?rf2
          case hf2 => (intro wz hSw; obtain ⟨c0, c1, c2, c3, c4, c5, c6, c7, c8, c9, c10⟩ := hSw.cells; go_simp <;> with_reducible rfl)
          (try simp only [Act.put, List.setIfInBounds_toArray, List.set_cons_zero, List.set_cons_succ])
          refine wpAnyH_take (i := 3) (oi := ⟨some 114, Op.load 29 (Operand.tmp 5), 29, _, _, some (1, true)⟩) (v := ?vf3) rfl (by kernel_rfl) (by kernel_rfl) (by kernel_rfl) (fun _ _ _ h => h) (Or.inl ⟨by rfl, ?hf3⟩) HQx.out.drew ?rf3
          case hf3 => (intro wz hSw; obtain ⟨c0, c1, c2, c3, c4, c5, c6, c7, c8, c9, c10⟩ := hSw.cells; go_simp <;> with_reducible rfl)
          (try simp only [Act.put, List.setIfInBounds_toArray, List.set_cons_zero, List.set_cons_succ])
          refine wpAnyH_take (i := 4) (oi := ⟨some 115, Op.load 23 (Operand.tmp 6), 23, _, _, some (1, true)⟩) (v := ?vf4) rfl (by kernel_rfl) (by kernel_rfl) (by kernel_rfl) (fun _ _ _ h => h) (Or.inl ⟨by rfl, ?hf4⟩) HQx.out.drew ?rf4
          case hf4 => (intro wz hSw; obtain ⟨c0, c1, c2, c3, c4, c5, c6, c7, c8, c9, c10⟩ := hSw.cells; go_simp <;> with_reducible rfl)
          (try simp only [Act.put, List.setIfInBounds_toArray, List.set_cons_zero, List.set_cons_succ])
          refine wpAnyH_take (i := 5) (oi := ⟨some 116, Op.load 23 (Operand.tmp 7), 23, _, _, some (1, true)⟩) (v := ?vf5) rfl (by kernel_rfl) (by kernel_rfl) (by kernel_rfl) (fun _ _ _ h => h) (Or.inl ⟨by rfl, ?hf5⟩) HQx.out.drew ?rf5
          case hf5 => (intro wz hSw; obtain ⟨c0, c1, c2, c3, c4, c5, c6, c7, c8, c9, c10⟩ := hSw.cells; go_simp <;> with_reducible rfl)
          (try simp only [Act.put, List.setIfInBounds_toArray, List.set_cons_zero, List.set_cons_succ])
          refine wpAnyH_take (i := 6) (oi := ⟨some 117, Op.move (Operand.tmp 3), 3, _, _, some (1, true)⟩) (v := ?vf6) rfl (by kernel_rfl) (by kernel_rfl) (by kernel_rfl) (fun _ _ _ h => h) (Or.inl ⟨by rfl, ?hf6⟩) HQx.out.drew ?rf6
          case hf6 => (intro wz hSw; go_simp <;> with_reducible rfl)
          (try simp only [Act.put, List.setIfInBounds_toArray, List.set_cons_zero, List.set_cons_succ])
          refine wpAnyH_take (i := 7) (oi := ⟨some 118, Op.move (Operand.tmp 4), 3, _, _, some (1, true)⟩) (v := ?vf7) rfl (by kernel_rfl) (by kernel_rfl) (by kernel_rfl) (fun _ _ _ h => h) (Or.inl ⟨by rfl, ?hf7⟩) HQx.out.drew ?rf7
          case hf7 => (intro wz hSw; go_simp <;> with_reducible rfl)
          (try simp only [Act.put, List.setIfInBounds_toArray, List.set_cons_zero, List.set_cons_succ])
          refine wpAnyH_take (i := 8) (oi := ⟨some 119, Op.binOp BinOp.add 3 (Operand.tmp 117) (Operand.tmp 118) 3, 3, _, _, some (1, true)⟩) (v := ?vf8) rfl (by kernel_rfl) (by kernel_rfl) (by kernel_rfl) (fun _ _ _ h => h) (Or.inl ⟨by rfl, ?hf8⟩) HQx.out.drew ?rf8
          case hf8 => (intro wz hSw; go_simp <;> with_reducible rfl)
          (try simp only [Act.put, List.setIfInBounds_toArray, List.set_cons_zero, List.set_cons_succ])
          refine wpAnyH_ready (rs := [9]) (by kernel_rfl) (by simp) ?_
          refine AllReadyH.cons (o := ⟨some 120, Op.call { callee := Callee.value (Operand.func 15), args := #[Operand.tmp 114, Operand.tmp 115, Operand.tmp 116, Operand.tmp 119], argTypes := #[29, 23, 23, 3] }, 23, _, _, some (1, true)⟩) rfl (fun K hK => ?_) AllReadyH.nil
          go_simp
          (with_reducible refine (T4.out _ HQx.out.gg.drew).mono ?_); rintro e w16 ⟨rfl, hB16⟩; have HQ16 := Lib.hid (HQx.out.drew.of hB16)
          refine hK.out _ _ HQ16.out (fun _ => ?_)
          clear hK K
          (try simp only [Act.put, List.setIfInBounds_toArray, List.set_cons_zero, List.set_cons_succ])
          refine wpAnyH_take (i := 10) (oi := ⟨some 121, Op.binOp BinOp.eql 23 (Operand.tmp 113) (Operand.tmp 120) 23, 4, _, _, some (1, true)⟩) (v := .bool true) rfl (by kernel_rfl) (by kernel_rfl) (by kernel_rfl) (fun _ _ _ h => h) (Or.inl ⟨by rfl, ?hf10⟩) HQ16.out ?rf10
          case hf10 => (intro wz hSw; go_simp <;> with_reducible rfl)
          (try simp only [Act.put, List.setIfInBounds_toArray, List.set_cons_zero, List.set_cons_succ])
          refine wpAnyH_take (i := 11) (oi := ⟨some 122, Op.pick (Operand.tmp 112) (Operand.tmp 121) (Operand.const (Value.bool false)), 4, _, _, none⟩) (v := ?vf11) rfl (by kernel_rfl) (by kernel_rfl) (by kernel_rfl) (fun _ _ _ h => h) (Or.inl ⟨by rfl, ?hf11⟩) HQ16.out ?rf11
          case hf11 => (intro wz hSw; go_simp <;> with_reducible rfl)
          (try simp only [Act.put, List.setIfInBounds_toArray, List.set_cons_zero, List.set_cons_succ])
          refine wpAnyH_take (i := 12) (oi := ⟨some 123, Op.move (Operand.tmp 122), 4, _, _, none⟩) (v := ?vf12) rfl (by kernel_rfl) (by kernel_rfl) (by kernel_rfl) (fun _ _ _ h => h) (Or.inl ⟨by rfl, ?hf12⟩) HQ16.out ?rf12
          case hf12 => (intro wz hSw; go_simp <;> with_reducible rfl)
          (try simp only [Act.put, List.setIfInBounds_toArray, List.set_cons_zero, List.set_cons_succ])
          refine wpAnyH_take (i := 13) (oi := ⟨some 124, Op.move (Operand.tmp 14), 3, _, _, some (12, true)⟩) (v := ?vf13) rfl (by kernel_rfl) (by kernel_rfl) (by kernel_rfl) (fun _ _ _ h => h) (Or.inl ⟨by rfl, ?hf13⟩) HQ16.out ?rf13
          case hf13 => (intro wz hSw; go_simp <;> with_reducible rfl)
          (try simp only [Act.put, List.setIfInBounds_toArray, List.set_cons_zero, List.set_cons_succ])
          refine wpAnyH_take (i := 14) (oi := ⟨some 125, Op.move (Operand.tmp 3), 3, _, _, some (12, true)⟩) (v := ?vf14) rfl (by kernel_rfl) (by kernel_rfl) (by kernel_rfl) (fun _ _ _ h => h) (Or.inl ⟨by rfl, ?hf14⟩) HQ16.out ?rf14
          case hf14 => (intro wz hSw; go_simp <;> with_reducible rfl)
          (try simp only [Act.put, List.setIfInBounds_toArray, List.set_cons_zero, List.set_cons_succ])
          refine wpAnyH_take (i := 15) (oi := ⟨some 126, Op.binOp BinOp.eql 3 (Operand.tmp 124) (Operand.tmp 125) 3, 4, _, _, some (12, true)⟩) (v := .bool true) rfl (by kernel_rfl) (by kernel_rfl) (by kernel_rfl) (fun _ _ _ h => h) (Or.inl ⟨by rfl, ?hf15⟩) HQ16.out ?rf15
          case hf15 => (intro wz hSw; go_simp <;> with_reducible rfl)
          (try simp only [Act.put, List.setIfInBounds_toArray, List.set_cons_zero, List.set_cons_succ])
          refine wpAnyH_take (i := 16) (oi := ⟨some 127, Op.move (Operand.tmp 126), 4, _, _, some (12, true)⟩) (v := ?vf16) rfl (by kernel_rfl) (by kernel_rfl) (by kernel_rfl) (fun _ _ _ h => h) (Or.inl ⟨by rfl, ?hf16⟩) HQ16.out ?rf16
          case hf16 => (intro wz hSw; go_simp <;> with_reducible rfl)
          (try simp only [Act.put, List.setIfInBounds_toArray, List.set_cons_zero, List.set_cons_succ])
          refine wpAnyH_take (i := 17) (oi := ⟨some 128, Op.move (Operand.tmp 17), 4, _, _, some (16, false)⟩) (v := undef) rfl (by kernel_rfl) (by kernel_rfl) (by kernel_rfl) (fun _ _ _ h => h) (Or.inr ⟨by rfl, rfl⟩) HQ16.out ?rf17
          (try simp only [Act.put, List.setIfInBounds_toArray, List.set_cons_zero, List.set_cons_succ])
          refine wpAnyH_take (i := 18) (oi := ⟨some 129, Op.pick (Operand.tmp 127) (Operand.const (Value.bool true)) (Operand.tmp 128), 4, _, _, some (12, true)⟩) (v := ?vf18) rfl (by kernel_rfl) (by kernel_rfl) (by kernel_rfl) (fun _ _ _ h => h) (Or.inl ⟨by rfl, ?hf18⟩) HQ16.out ?rf18
          case hf18 => (intro wz hSw; go_simp <;> with_reducible rfl)
          (try simp only [Act.put, List.setIfInBounds_toArray, List.set_cons_zero, List.set_cons_succ])
          refine wpAnyH_take (i := 19) (oi := ⟨some 130, Op.pick (Operand.tmp 123) (Operand.tmp 129) (Operand.const (Value.bool false)), 4, _, _, none⟩) (v := ?vf19) rfl (by kernel_rfl) (by kernel_rfl) (by kernel_rfl) (fun _ _ _ h => h) (Or.inl ⟨by rfl, ?hf19⟩) HQ16.out ?rf19
          case hf19 => (intro wz hSw; go_simp <;> with_reducible rfl)
          (try simp only [Act.put, List.setIfInBounds_toArray, List.set_cons_zero, List.set_cons_succ])
          refine wpAnyH_take (i := 20) (oi := ⟨some 131, Op.move (Operand.tmp 130), 4, _, _, none⟩) (v := ?vf20) rfl (by kernel_rfl) (by kernel_rfl) (by kernel_rfl) (fun _ _ _ h => h) (Or.inl ⟨by rfl, ?hf20⟩) HQ16.out ?rf20
          case hf20 => (intro wz hSw; go_simp <;> with_reducible rfl)
          (try simp only [Act.put, List.setIfInBounds_toArray, List.set_cons_zero, List.set_cons_succ])
          refine wpAnyH_take (i := 21) (oi := ⟨some 132, Op.move (Operand.tmp 3), 3, _, _, some (20, true)⟩) (v := ?vf21) rfl (by kernel_rfl) (by kernel_rfl) (by kernel_rfl) (fun _ _ _ h => h) (Or.inl ⟨by rfl, ?hf21⟩) HQ16.out ?rf21
          case hf21 => (intro wz hSw; go_simp <;> with_reducible rfl)
          (try simp only [Act.put, List.setIfInBounds_toArray, List.set_cons_zero, List.set_cons_succ])
          refine wpAnyH_take (i := 22) (oi := ⟨some 133, Op.binOp BinOp.neq 3 (Operand.tmp 132) (Operand.const (Value.int IntKind.i64 0)) 3, 4, _, _, some (20, true)⟩) (v := .bool true) rfl (by kernel_rfl) (by kernel_rfl) (by kernel_rfl) (fun _ _ _ h => h) (Or.inl ⟨by rfl, ?hf22⟩) HQ16.out ?rf22
          case hf22 => (intro wz hSw; go_simp <;> with_reducible rfl)
          (try simp only [Act.put, List.setIfInBounds_toArray, List.set_cons_zero, List.set_cons_succ])
          refine wpAnyH_take (i := 23) (oi := ⟨some 134, Op.move (Operand.tmp 133), 4, _, _, some (20, true)⟩) (v := ?vf23) rfl (by kernel_rfl) (by kernel_rfl) (by kernel_rfl) (fun _ _ _ h => h) (Or.inl ⟨by rfl, ?hf23⟩) HQ16.out ?rf23
          case hf23 => (intro wz hSw; go_simp <;> with_reducible rfl)
          (try simp only [Act.put, List.setIfInBounds_toArray, List.set_cons_zero, List.set_cons_succ])
          refine wpAnyH_take (i := 24) (oi := ⟨some 135, Op.load 23 (Operand.tmp 13), 23, _, _, some (23, false)⟩) (v := undef) rfl (by kernel_rfl) (by kernel_rfl) (by kernel_rfl) (fun _ _ _ h => h) (Or.inr ⟨by rfl, rfl⟩) HQ16.out ?rf24
          (try simp only [Act.put, List.setIfInBounds_toArray, List.set_cons_zero, List.set_cons_succ])
          refine wpAnyH_take (i := 25) (oi := ⟨some 136, Op.load 23 (Operand.tmp 6), 23, _, _, some (23, false)⟩) (v := undef) rfl (by kernel_rfl) (by kernel_rfl) (by kernel_rfl) (fun _ _ _ h => h) (Or.inr ⟨by rfl, rfl⟩) HQ16.out ?rf25
          (try simp only [Act.put, List.setIfInBounds_toArray, List.set_cons_zero, List.set_cons_succ])
          refine wpAnyH_take (i := 26) (oi := ⟨some 137, Op.binOp BinOp.eql 23 (Operand.tmp 135) (Operand.tmp 136) 23, 4, _, _, some (23, false)⟩) (v := undef) rfl (by kernel_rfl) (by kernel_rfl) (by kernel_rfl) (fun _ _ _ h => h) (Or.inr ⟨by rfl, rfl⟩) HQ16.out ?rf26
          (try simp only [Act.put, List.setIfInBounds_toArray, List.set_cons_zero, List.set_cons_succ])
          refine wpAnyH_take (i := 27) (oi := ⟨some 138, Op.pick (Operand.tmp 134) (Operand.const (Value.bool true)) (Operand.tmp 137), 4, _, _, some (20, true)⟩) (v := ?vf27) rfl (by kernel_rfl) (by kernel_rfl) (by kernel_rfl) (fun _ _ _ h => h) (Or.inl ⟨by rfl, ?hf27⟩) HQ16.out ?rf27
          case hf27 => (intro wz hSw; go_simp <;> with_reducible rfl)
          (try simp only [Act.put, List.setIfInBounds_toArray, List.set_cons_zero, List.set_cons_succ])
          refine wpAnyH_take (i := 28) (oi := ⟨some 139, Op.pick (Operand.tmp 131) (Operand.tmp 138) (Operand.const (Value.bool false)), 4, _, _, none⟩) (v := ?vf28) rfl (by kernel_rfl) (by kernel_rfl) (by kernel_rfl) (fun _ _ _ h => h) (Or.inl ⟨by rfl, ?hf28⟩) HQ16.out ?rf28
          case hf28 => (intro wz hSw; go_simp <;> with_reducible rfl)
          (try simp only [Act.put, List.setIfInBounds_toArray, List.set_cons_zero, List.set_cons_succ])
          refine wpAnyH_take (i := 29) (oi := ⟨some 10, Op.assign (Operand.tmp 139), 4, _, _, none⟩) (v := ?vf29) rfl (by kernel_rfl) (by kernel_rfl) (by kernel_rfl) (fun _ _ _ h => h) (Or.inl ⟨by rfl, ?hf29⟩) HQ16.out ?rf29
          case hf29 => (intro wz hSw; go_simp <;> with_reducible rfl)
          (try simp only [Act.put, List.setIfInBounds_toArray, List.set_cons_zero, List.set_cons_succ])
          refine wpAnyH_done (by kernel_rfl) ?_ _
          refine NoPanic.normal ?_
          go_wp2
          go_ret
          exact ⟨rfl, HQ16.out.gg.below⟩
      · have hkn' : (k == n) = false := by simpa using hkn
        obtain rfl : st = true := hst.elim (fun h => (hkn h).elim) id
        by_cases hz : n = 0
        · have hz' : (n != 0) = false := by simpa using hz
          obtain ⟨e1, e2⟩ := hnone.out hz
          subst e1
          subst e2
          have HZ := Lib.hid hz; clear hz
          refine wp_region_noPanic ?_
          refine wp_region_held_drew (S := QAt gw gh A l.length c px py bx by' px py qx qy P Pq W) (by kernel_rfl) HQx.out.drew (fun _ => ?_)
          refine wpAnyH_take (i := 0) (oi := ⟨some 111, Op.move (Operand.tmp 11), 4, _, _, none⟩) (v := ?vq0) rfl (by kernel_rfl) (by kernel_rfl) (by kernel_rfl) (fun _ _ _ h => h) (Or.inl ⟨by rfl, ?hq0⟩) HQx.out.drew ?rq0
          case hq0 => (intro wz hSw; go_simp <;> with_reducible rfl)
          (try simp only [Act.put, List.setIfInBounds_toArray, List.set_cons_zero, List.set_cons_succ])
          refine wpAnyH_take (i := 1) (oi := ⟨some 112, Op.move (Operand.tmp 111), 4, _, _, none⟩) (v := ?vq1) rfl (by kernel_rfl) (by kernel_rfl) (by kernel_rfl) (fun _ _ _ h => h) (Or.inl ⟨by rfl, ?hq1⟩) HQx.out.drew ?rq1
          case hq1 => (intro wz hSw; go_simp <;> with_reducible rfl)
          (try simp only [Act.put, List.setIfInBounds_toArray, List.set_cons_zero, List.set_cons_succ])
          refine wpAnyH_take (i := 2) (oi := ⟨some 113, Op.load 23 (Operand.tmp 15), 23, _, _, some (1, true)⟩) (v := ?vq2) rfl (by kernel_rfl) (by kernel_rfl) (by kernel_rfl) (fun _ _ _ h => h) (Or.inl ⟨by rfl, ?hq2⟩) HQx.out.drew ?rq2
          case hq2 => (intro wz hSw; obtain ⟨c0, c1, c2, c3, c4, c5, c6, c7, c8, c9, c10⟩ := hSw.cells; go_simp <;> with_reducible rfl)
          (try simp only [Act.put, List.setIfInBounds_toArray, List.set_cons_zero, List.set_cons_succ])
          refine wpAnyH_take (i := 3) (oi := ⟨some 114, Op.load 29 (Operand.tmp 5), 29, _, _, some (1, true)⟩) (v := ?vq3) rfl (by kernel_rfl) (by kernel_rfl) (by kernel_rfl) (fun _ _ _ h => h) (Or.inl ⟨by rfl, ?hq3⟩) HQx.out.drew ?rq3
          case hq3 => (intro wz hSw; obtain ⟨c0, c1, c2, c3, c4, c5, c6, c7, c8, c9, c10⟩ := hSw.cells; go_simp <;> with_reducible rfl)
          (try simp only [Act.put, List.setIfInBounds_toArray, List.set_cons_zero, List.set_cons_succ])
          refine wpAnyH_take (i := 4) (oi := ⟨some 115, Op.load 23 (Operand.tmp 6), 23, _, _, some (1, true)⟩) (v := ?vq4) rfl (by kernel_rfl) (by kernel_rfl) (by kernel_rfl) (fun _ _ _ h => h) (Or.inl ⟨by rfl, ?hq4⟩) HQx.out.drew ?rq4
          case hq4 => (intro wz hSw; obtain ⟨c0, c1, c2, c3, c4, c5, c6, c7, c8, c9, c10⟩ := hSw.cells; go_simp <;> with_reducible rfl)
          (try simp only [Act.put, List.setIfInBounds_toArray, List.set_cons_zero, List.set_cons_succ])
          refine wpAnyH_take (i := 5) (oi := ⟨some 116, Op.load 23 (Operand.tmp 7), 23, _, _, some (1, true)⟩) (v := ?vq5) rfl (by kernel_rfl) (by kernel_rfl) (by kernel_rfl) (fun _ _ _ h => h) (Or.inl ⟨by rfl, ?hq5⟩) HQx.out.drew ?rq5
          case hq5 => (intro wz hSw; obtain ⟨c0, c1, c2, c3, c4, c5, c6, c7, c8, c9, c10⟩ := hSw.cells; go_simp <;> with_reducible rfl)
          (try simp only [Act.put, List.setIfInBounds_toArray, List.set_cons_zero, List.set_cons_succ])
          refine wpAnyH_take (i := 6) (oi := ⟨some 117, Op.move (Operand.tmp 3), 3, _, _, some (1, true)⟩) (v := ?vq6) rfl (by kernel_rfl) (by kernel_rfl) (by kernel_rfl) (fun _ _ _ h => h) (Or.inl ⟨by rfl, ?hq6⟩) HQx.out.drew ?rq6
          case hq6 => (intro wz hSw; go_simp <;> with_reducible rfl)
          (try simp only [Act.put, List.setIfInBounds_toArray, List.set_cons_zero, List.set_cons_succ])
          refine wpAnyH_take (i := 7) (oi := ⟨some 118, Op.move (Operand.tmp 4), 3, _, _, some (1, true)⟩) (v := ?vq7) rfl (by kernel_rfl) (by kernel_rfl) (by kernel_rfl) (fun _ _ _ h => h) (Or.inl ⟨by rfl, ?hq7⟩) HQx.out.drew ?rq7
          case hq7 => (intro wz hSw; go_simp <;> with_reducible rfl)
          (try simp only [Act.put, List.setIfInBounds_toArray, List.set_cons_zero, List.set_cons_succ])
          refine wpAnyH_take (i := 8) (oi := ⟨some 119, Op.binOp BinOp.add 3 (Operand.tmp 117) (Operand.tmp 118) 3, 3, _, _, some (1, true)⟩) (v := ?vq8) rfl (by kernel_rfl) (by kernel_rfl) (by kernel_rfl) (fun _ _ _ h => h) (Or.inl ⟨by rfl, ?hq8⟩) HQx.out.drew ?rq8
          case hq8 => (intro wz hSw; go_simp <;> with_reducible rfl)
          (try simp only [Act.put, List.setIfInBounds_toArray, List.set_cons_zero, List.set_cons_succ])
          refine wpAnyH_ready (rs := [9]) (by kernel_rfl) (by simp) ?_
          refine AllReadyH.cons (o := ⟨some 120, Op.call { callee := Callee.value (Operand.func 15), args := #[Operand.tmp 114, Operand.tmp 115, Operand.tmp 116, Operand.tmp 119], argTypes := #[29, 23, 23, 3] }, 23, _, _, some (1, true)⟩) rfl (fun K hK => ?_) AllReadyH.nil
          go_simp
          (with_reducible refine (T4.out _ HQx.out.gg.drew).mono ?_); rintro e w16 ⟨rfl, hB16⟩; have HQ16 := Lib.hid (HQx.out.drew.of hB16)
          refine hK.out _ _ HQ16.out (fun _ => ?_)
          clear hK K
          (try simp only [Act.put, List.setIfInBounds_toArray, List.set_cons_zero, List.set_cons_succ])
          refine wpAnyH_take (i := 10) (oi := ⟨some 121, Op.binOp BinOp.eql 23 (Operand.tmp 113) (Operand.tmp 120) 23, 4, _, _, some (1, true)⟩) (v := .bool true) rfl (by kernel_rfl) (by kernel_rfl) (by kernel_rfl) (fun _ _ _ h => h) (Or.inl ⟨by rfl, ?hq10⟩) HQ16.out ?rq10
          case hq10 => (intro wz hSw; go_simp <;> with_reducible rfl)
          (try simp only [Act.put, List.setIfInBounds_toArray, List.set_cons_zero, List.set_cons_succ])
          refine wpAnyH_take (i := 11) (oi := ⟨some 122, Op.pick (Operand.tmp 112) (Operand.tmp 121) (Operand.const (Value.bool false)), 4, _, _, none⟩) (v := ?vq11) rfl (by kernel_rfl) (by kernel_rfl) (by kernel_rfl) (fun _ _ _ h => h) (Or.inl ⟨by rfl, ?hq11⟩) HQ16.out ?rq11
          case hq11 => (intro wz hSw; go_simp <;> with_reducible rfl)
          (try simp only [Act.put, List.setIfInBounds_toArray, List.set_cons_zero, List.set_cons_succ])
          refine wpAnyH_take (i := 12) (oi := ⟨some 123, Op.move (Operand.tmp 122), 4, _, _, none⟩) (v := ?vq12) rfl (by kernel_rfl) (by kernel_rfl) (by kernel_rfl) (fun _ _ _ h => h) (Or.inl ⟨by rfl, ?hq12⟩) HQ16.out ?rq12
          case hq12 => (intro wz hSw; go_simp <;> with_reducible rfl)
          (try simp only [Act.put, List.setIfInBounds_toArray, List.set_cons_zero, List.set_cons_succ])
          refine wpAnyH_take (i := 13) (oi := ⟨some 124, Op.move (Operand.tmp 14), 3, _, _, some (12, true)⟩) (v := ?vq13) rfl (by kernel_rfl) (by kernel_rfl) (by kernel_rfl) (fun _ _ _ h => h) (Or.inl ⟨by rfl, ?hq13⟩) HQ16.out ?rq13
          case hq13 => (intro wz hSw; go_simp <;> with_reducible rfl)
          (try simp only [Act.put, List.setIfInBounds_toArray, List.set_cons_zero, List.set_cons_succ])
          refine wpAnyH_take (i := 14) (oi := ⟨some 125, Op.move (Operand.tmp 3), 3, _, _, some (12, true)⟩) (v := ?vq14) rfl (by kernel_rfl) (by kernel_rfl) (by kernel_rfl) (fun _ _ _ h => h) (Or.inl ⟨by rfl, ?hq14⟩) HQ16.out ?rq14
          case hq14 => (intro wz hSw; go_simp <;> with_reducible rfl)
          (try simp only [Act.put, List.setIfInBounds_toArray, List.set_cons_zero, List.set_cons_succ])
          refine wpAnyH_take (i := 15) (oi := ⟨some 126, Op.binOp BinOp.eql 3 (Operand.tmp 124) (Operand.tmp 125) 3, 4, _, _, some (12, true)⟩) (v := .bool false) rfl (by kernel_rfl) (by kernel_rfl) (by kernel_rfl) (fun _ _ _ h => h) (Or.inl ⟨by rfl, ?hq15⟩) HQ16.out ?rq15
          case hq15 => (intro wz hSw; go_simp <;> with_reducible rfl)
          (try simp only [Act.put, List.setIfInBounds_toArray, List.set_cons_zero, List.set_cons_succ])
          refine wpAnyH_take (i := 16) (oi := ⟨some 127, Op.move (Operand.tmp 126), 4, _, _, some (12, true)⟩) (v := ?vq16) rfl (by kernel_rfl) (by kernel_rfl) (by kernel_rfl) (fun _ _ _ h => h) (Or.inl ⟨by rfl, ?hq16⟩) HQ16.out ?rq16
          case hq16 => (intro wz hSw; go_simp <;> with_reducible rfl)
          (try simp only [Act.put, List.setIfInBounds_toArray, List.set_cons_zero, List.set_cons_succ])
          refine wpAnyH_take (i := 17) (oi := ⟨some 128, Op.move (Operand.tmp 17), 4, _, _, some (16, false)⟩) (v := ?vq17) rfl (by kernel_rfl) (by kernel_rfl) (by kernel_rfl) (fun _ _ _ h => h) (Or.inl ⟨by rfl, ?hq17⟩) HQ16.out ?rq17
          case hq17 => (intro wz hSw; go_simp <;> with_reducible rfl)
          (try simp only [Act.put, List.setIfInBounds_toArray, List.set_cons_zero, List.set_cons_succ])
          refine wpAnyH_take (i := 18) (oi := ⟨some 129, Op.pick (Operand.tmp 127) (Operand.const (Value.bool true)) (Operand.tmp 128), 4, _, _, some (12, true)⟩) (v := ?vq18) rfl (by kernel_rfl) (by kernel_rfl) (by kernel_rfl) (fun _ _ _ h => h) (Or.inl ⟨by rfl, ?hq18⟩) HQ16.out ?rq18
          case hq18 => (intro wz hSw; go_simp <;> with_reducible rfl)
          (try simp only [Act.put, List.setIfInBounds_toArray, List.set_cons_zero, List.set_cons_succ])
          refine wpAnyH_take (i := 19) (oi := ⟨some 130, Op.pick (Operand.tmp 123) (Operand.tmp 129) (Operand.const (Value.bool false)), 4, _, _, none⟩) (v := ?vq19) rfl (by kernel_rfl) (by kernel_rfl) (by kernel_rfl) (fun _ _ _ h => h) (Or.inl ⟨by rfl, ?hq19⟩) HQ16.out ?rq19
          case hq19 => (intro wz hSw; go_simp <;> with_reducible rfl)
          (try simp only [Act.put, List.setIfInBounds_toArray, List.set_cons_zero, List.set_cons_succ])
          refine wpAnyH_take (i := 20) (oi := ⟨some 131, Op.move (Operand.tmp 130), 4, _, _, none⟩) (v := ?vq20) rfl (by kernel_rfl) (by kernel_rfl) (by kernel_rfl) (fun _ _ _ h => h) (Or.inl ⟨by rfl, ?hq20⟩) HQ16.out ?rq20
          case hq20 => (intro wz hSw; go_simp <;> with_reducible rfl)
          (try simp only [Act.put, List.setIfInBounds_toArray, List.set_cons_zero, List.set_cons_succ])
          refine wpAnyH_take (i := 21) (oi := ⟨some 132, Op.move (Operand.tmp 3), 3, _, _, some (20, true)⟩) (v := ?vq21) rfl (by kernel_rfl) (by kernel_rfl) (by kernel_rfl) (fun _ _ _ h => h) (Or.inl ⟨by rfl, ?hq21⟩) HQ16.out ?rq21
          case hq21 => (intro wz hSw; go_simp <;> with_reducible rfl)
          (try simp only [Act.put, List.setIfInBounds_toArray, List.set_cons_zero, List.set_cons_succ])
          refine wpAnyH_take (i := 22) (oi := ⟨some 133, Op.binOp BinOp.neq 3 (Operand.tmp 132) (Operand.const (Value.int IntKind.i64 0)) 3, 4, _, _, some (20, true)⟩) (v := .bool false) rfl (by kernel_rfl) (by kernel_rfl) (by kernel_rfl) (fun _ _ _ h => h) (Or.inl ⟨by rfl, ?hq22⟩) HQ16.out ?rq22
          case hq22 => (intro wz hSw; go_simp <;> with_reducible rfl)
          (try simp only [Act.put, List.setIfInBounds_toArray, List.set_cons_zero, List.set_cons_succ])
          refine wpAnyH_take (i := 23) (oi := ⟨some 134, Op.move (Operand.tmp 133), 4, _, _, some (20, true)⟩) (v := ?vq23) rfl (by kernel_rfl) (by kernel_rfl) (by kernel_rfl) (fun _ _ _ h => h) (Or.inl ⟨by rfl, ?hq23⟩) HQ16.out ?rq23
          case hq23 => (intro wz hSw; go_simp <;> with_reducible rfl)
          (try simp only [Act.put, List.setIfInBounds_toArray, List.set_cons_zero, List.set_cons_succ])
          refine wpAnyH_take (i := 24) (oi := ⟨some 135, Op.load 23 (Operand.tmp 13), 23, _, _, some (23, false)⟩) (v := ?vq24) rfl (by kernel_rfl) (by kernel_rfl) (by kernel_rfl) (fun _ _ _ h => h) (Or.inl ⟨by rfl, ?hq24⟩) HQ16.out ?rq24
          case hq24 => (intro wz hSw; obtain ⟨c0, c1, c2, c3, c4, c5, c6, c7, c8, c9, c10⟩ := hSw.cells; go_simp <;> with_reducible rfl)
          (try simp only [Act.put, List.setIfInBounds_toArray, List.set_cons_zero, List.set_cons_succ])
          refine wpAnyH_take (i := 25) (oi := ⟨some 136, Op.load 23 (Operand.tmp 6), 23, _, _, some (23, false)⟩) (v := ?vq25) rfl (by kernel_rfl) (by kernel_rfl) (by kernel_rfl) (fun _ _ _ h => h) (Or.inl ⟨by rfl, ?hq25⟩) HQ16.out ?rq25
          case hq25 => (intro wz hSw; obtain ⟨c0, c1, c2, c3, c4, c5, c6, c7, c8, c9, c10⟩ := hSw.cells; go_simp <;> with_reducible rfl)
          (try simp only [Act.put, List.setIfInBounds_toArray, List.set_cons_zero, List.set_cons_succ])
          refine wpAnyH_take (i := 26) (oi := ⟨some 137, Op.binOp BinOp.eql 23 (Operand.tmp 135) (Operand.tmp 136) 23, 4, _, _, some (23, false)⟩) (v := .bool true) rfl (by kernel_rfl) (by kernel_rfl) (by kernel_rfl) (fun _ _ _ h => h) (Or.inl ⟨by rfl, ?hq26⟩) HQ16.out ?rq26
          case hq26 => (intro wz hSw; go_simp <;> with_reducible rfl)
          (try simp only [Act.put, List.setIfInBounds_toArray, List.set_cons_zero, List.set_cons_succ])
          refine wpAnyH_take (i := 27) (oi := ⟨some 138, Op.pick (Operand.tmp 134) (Operand.const (Value.bool true)) (Operand.tmp 137), 4, _, _, some (20, true)⟩) (v := ?vq27) rfl (by kernel_rfl) (by kernel_rfl) (by kernel_rfl) (fun _ _ _ h => h) (Or.inl ⟨by rfl, ?hq27⟩) HQ16.out ?rq27
          case hq27 => (intro wz hSw; go_simp <;> with_reducible rfl)
          (try simp only [Act.put, List.setIfInBounds_toArray, List.set_cons_zero, List.set_cons_succ])
          refine wpAnyH_take (i := 28) (oi := ⟨some 139, Op.pick (Operand.tmp 131) (Operand.tmp 138) (Operand.const (Value.bool false)), 4, _, _, none⟩) (v := ?vq28) rfl (by kernel_rfl) (by kernel_rfl) (by kernel_rfl) (fun _ _ _ h => h) (Or.inl ⟨by rfl, ?hq28⟩) HQ16.out ?rq28
          case hq28 => (intro wz hSw; go_simp <;> with_reducible rfl)
          (try simp only [Act.put, List.setIfInBounds_toArray, List.set_cons_zero, List.set_cons_succ])
          refine wpAnyH_take (i := 29) (oi := ⟨some 10, Op.assign (Operand.tmp 139), 4, _, _, none⟩) (v := ?vq29) rfl (by kernel_rfl) (by kernel_rfl) (by kernel_rfl) (fun _ _ _ h => h) (Or.inl ⟨by rfl, ?hq29⟩) HQ16.out ?rq29
          case hq29 => (intro wz hSw; go_simp <;> with_reducible rfl)
          (try simp only [Act.put, List.setIfInBounds_toArray, List.set_cons_zero, List.set_cons_succ])
          refine wpAnyH_done (by kernel_rfl) ?_ _
          refine NoPanic.normal ?_
          go_wp2
          go_ret
          exact ⟨rfl, HQ16.out.gg.below⟩
        · have hz' : (n != 0) = true := by simpa using hz
          refine wp_region_noPanic ?_
          refine wp_region_held_drew (S := QAt gw gh A l.length c ax ay bx by' px py qx qy P Pq W) (by kernel_rfl) HQx.out.drew (fun _ => ?_)
          refine wpAnyH_take (i := 0) (oi := ⟨some 111, Op.move (Operand.tmp 11), 4, _, _, none⟩) (v := ?vg0) rfl (by kernel_rfl) (by kernel_rfl) (by kernel_rfl) (fun _ _ _ h => h) (Or.inl ⟨by rfl, ?hg0⟩) HQx.out.drew ?rg0
          case hg0 => (intro wz hSw; go_simp <;> with_reducible rfl)
          (try simp only [Act.put, List.setIfInBounds_toArray, List.set_cons_zero, List.set_cons_succ])
          refine wpAnyH_take (i := 1) (oi := ⟨some 112, Op.move (Operand.tmp 111), 4, _, _, none⟩) (v := ?vg1) rfl (by kernel_rfl) (by kernel_rfl) (by kernel_rfl) (fun _ _ _ h => h) (Or.inl ⟨by rfl, ?hg1⟩) HQx.out.drew ?rg1
          case hg1 => (intro wz hSw; go_simp <;> with_reducible rfl)
          (try simp only [Act.put, List.setIfInBounds_toArray, List.set_cons_zero, List.set_cons_succ])
          refine wpAnyH_take (i := 2) (oi := ⟨some 113, Op.load 23 (Operand.tmp 15), 23, _, _, some (1, true)⟩) (v := ?vg2) rfl (by kernel_rfl) (by kernel_rfl) (by kernel_rfl) (fun _ _ _ h => h) (Or.inl ⟨by rfl, ?hg2⟩) HQx.out.drew ?rg2
          case hg2 => (intro wz hSw; obtain ⟨c0, c1, c2, c3, c4, c5, c6, c7, c8, c9, c10⟩ := hSw.cells; go_simp <;> with_reducible rfl)
          (try simp only [Act.put, List.setIfInBounds_toArray, List.set_cons_zero, List.set_cons_succ])
          refine wpAnyH_take (i := 3) (oi := ⟨some 114, Op.load 29 (Operand.tmp 5), 29, _, _, some (1, true)⟩) (v := ?vg3) rfl (by kernel_rfl) (by kernel_rfl) (by kernel_rfl) (fun _ _ _ h => h) (Or.inl ⟨by rfl, ?hg3⟩) HQx.out.drew ?rg3
          case hg3 => (intro wz hSw; obtain ⟨c0, c1, c2, c3, c4, c5, c6, c7, c8, c9, c10⟩ := hSw.cells; go_simp <;> with_reducible rfl)
          (try simp only [Act.put, List.setIfInBounds_toArray, List.set_cons_zero, List.set_cons_succ])
          refine wpAnyH_take (i := 4) (oi := ⟨some 115, Op.load 23 (Operand.tmp 6), 23, _, _, some (1, true)⟩) (v := ?vg4) rfl (by kernel_rfl) (by kernel_rfl) (by kernel_rfl) (fun _ _ _ h => h) (Or.inl ⟨by rfl, ?hg4⟩) HQx.out.drew ?rg4
          case hg4 => (intro wz hSw; obtain ⟨c0, c1, c2, c3, c4, c5, c6, c7, c8, c9, c10⟩ := hSw.cells; go_simp <;> with_reducible rfl)
          (try simp only [Act.put, List.setIfInBounds_toArray, List.set_cons_zero, List.set_cons_succ])
          refine wpAnyH_take (i := 5) (oi := ⟨some 116, Op.load 23 (Operand.tmp 7), 23, _, _, some (1, true)⟩) (v := ?vg5) rfl (by kernel_rfl) (by kernel_rfl) (by kernel_rfl) (fun _ _ _ h => h) (Or.inl ⟨by rfl, ?hg5⟩) HQx.out.drew ?rg5
          case hg5 => (intro wz hSw; obtain ⟨c0, c1, c2, c3, c4, c5, c6, c7, c8, c9, c10⟩ := hSw.cells; go_simp <;> with_reducible rfl)
          (try simp only [Act.put, List.setIfInBounds_toArray, List.set_cons_zero, List.set_cons_succ])
          refine wpAnyH_take (i := 6) (oi := ⟨some 117, Op.move (Operand.tmp 3), 3, _, _, some (1, true)⟩) (v := ?vg6) rfl (by kernel_rfl) (by kernel_rfl) (by kernel_rfl) (fun _ _ _ h => h) (Or.inl ⟨by rfl, ?hg6⟩) HQx.out.drew ?rg6
          case hg6 => (intro wz hSw; go_simp <;> with_reducible rfl)
          (try simp only [Act.put, List.setIfInBounds_toArray, List.set_cons_zero, List.set_cons_succ])
          refine wpAnyH_take (i := 7) (oi := ⟨some 118, Op.move (Operand.tmp 4), 3, _, _, some (1, true)⟩) (v := ?vg7) rfl (by kernel_rfl) (by kernel_rfl) (by kernel_rfl) (fun _ _ _ h => h) (Or.inl ⟨by rfl, ?hg7⟩) HQx.out.drew ?rg7
          case hg7 => (intro wz hSw; go_simp <;> with_reducible rfl)
          (try simp only [Act.put, List.setIfInBounds_toArray, List.set_cons_zero, List.set_cons_succ])
          refine wpAnyH_take (i := 8) (oi := ⟨some 119, Op.binOp BinOp.add 3 (Operand.tmp 117) (Operand.tmp 118) 3, 3, _, _, some (1, true)⟩) (v := ?vg8) rfl (by kernel_rfl) (by kernel_rfl) (by kernel_rfl) (fun _ _ _ h => h) (Or.inl ⟨by rfl, ?hg8⟩) HQx.out.drew ?rg8
          case hg8 => (intro wz hSw; go_simp <;> with_reducible rfl)
          (try simp only [Act.put, List.setIfInBounds_toArray, List.set_cons_zero, List.set_cons_succ])
          refine wpAnyH_ready (rs := [9]) (by kernel_rfl) (by simp) ?_
          refine AllReadyH.cons (o := ⟨some 120, Op.call { callee := Callee.value (Operand.func 15), args := #[Operand.tmp 114, Operand.tmp 115, Operand.tmp 116, Operand.tmp 119], argTypes := #[29, 23, 23, 3] }, 23, _, _, some (1, true)⟩) rfl (fun K hK => ?_) AllReadyH.nil
          go_simp
          (with_reducible refine (T4.out _ HQx.out.gg.drew).mono ?_); rintro e w16 ⟨rfl, hB16⟩; have HQ16 := Lib.hid (HQx.out.drew.of hB16)
          refine hK.out _ _ HQ16.out (fun _ => ?_)
          clear hK K
          (try simp only [Act.put, List.setIfInBounds_toArray, List.set_cons_zero, List.set_cons_succ])
          refine wpAnyH_take (i := 10) (oi := ⟨some 121, Op.binOp BinOp.eql 23 (Operand.tmp 113) (Operand.tmp 120) 23, 4, _, _, some (1, true)⟩) (v := .bool true) rfl (by kernel_rfl) (by kernel_rfl) (by kernel_rfl) (fun _ _ _ h => h) (Or.inl ⟨by rfl, ?hg10⟩) HQ16.out ?rg10
          case hg10 => (intro wz hSw; go_simp <;> with_reducible rfl)
          (try simp only [Act.put, List.setIfInBounds_toArray, List.set_cons_zero, List.set_cons_succ])
          refine wpAnyH_take (i := 11) (oi := ⟨some 122, Op.pick (Operand.tmp 112) (Operand.tmp 121) (Operand.const (Value.bool false)), 4, _, _, none⟩) (v := ?vg11) rfl (by kernel_rfl) (by kernel_rfl) (by kernel_rfl) (fun _ _ _ h => h) (Or.inl ⟨by rfl, ?hg11⟩) HQ16.out ?rg11
          case hg11 => (intro wz hSw; go_simp <;> with_reducible rfl)
          (try simp only [Act.put, List.setIfInBounds_toArray, List.set_cons_zero, List.set_cons_succ])
          refine wpAnyH_take (i := 12) (oi := ⟨some 123, Op.move (Operand.tmp 122), 4, _, _, none⟩) (v := ?vg12) rfl (by kernel_rfl) (by kernel_rfl) (by kernel_rfl) (fun _ _ _ h => h) (Or.inl ⟨by rfl, ?hg12⟩) HQ16.out ?rg12
          case hg12 => (intro wz hSw; go_simp <;> with_reducible rfl)
          (try simp only [Act.put, List.setIfInBounds_toArray, List.set_cons_zero, List.set_cons_succ])
          refine wpAnyH_take (i := 13) (oi := ⟨some 124, Op.move (Operand.tmp 14), 3, _, _, some (12, true)⟩) (v := ?vg13) rfl (by kernel_rfl) (by kernel_rfl) (by kernel_rfl) (fun _ _ _ h => h) (Or.inl ⟨by rfl, ?hg13⟩) HQ16.out ?rg13
          case hg13 => (intro wz hSw; go_simp <;> with_reducible rfl)
          (try simp only [Act.put, List.setIfInBounds_toArray, List.set_cons_zero, List.set_cons_succ])
          refine wpAnyH_take (i := 14) (oi := ⟨some 125, Op.move (Operand.tmp 3), 3, _, _, some (12, true)⟩) (v := ?vg14) rfl (by kernel_rfl) (by kernel_rfl) (by kernel_rfl) (fun _ _ _ h => h) (Or.inl ⟨by rfl, ?hg14⟩) HQ16.out ?rg14
          case hg14 => (intro wz hSw; go_simp <;> with_reducible rfl)
          (try simp only [Act.put, List.setIfInBounds_toArray, List.set_cons_zero, List.set_cons_succ])
          refine wpAnyH_take (i := 15) (oi := ⟨some 126, Op.binOp BinOp.eql 3 (Operand.tmp 124) (Operand.tmp 125) 3, 4, _, _, some (12, true)⟩) (v := .bool false) rfl (by kernel_rfl) (by kernel_rfl) (by kernel_rfl) (fun _ _ _ h => h) (Or.inl ⟨by rfl, ?hg15⟩) HQ16.out ?rg15
          case hg15 => (intro wz hSw; go_simp <;> with_reducible rfl)
          (try simp only [Act.put, List.setIfInBounds_toArray, List.set_cons_zero, List.set_cons_succ])
          refine wpAnyH_take (i := 16) (oi := ⟨some 127, Op.move (Operand.tmp 126), 4, _, _, some (12, true)⟩) (v := ?vg16) rfl (by kernel_rfl) (by kernel_rfl) (by kernel_rfl) (fun _ _ _ h => h) (Or.inl ⟨by rfl, ?hg16⟩) HQ16.out ?rg16
          case hg16 => (intro wz hSw; go_simp <;> with_reducible rfl)
          (try simp only [Act.put, List.setIfInBounds_toArray, List.set_cons_zero, List.set_cons_succ])
          refine wpAnyH_take (i := 17) (oi := ⟨some 128, Op.move (Operand.tmp 17), 4, _, _, some (16, false)⟩) (v := ?vg17) rfl (by kernel_rfl) (by kernel_rfl) (by kernel_rfl) (fun _ _ _ h => h) (Or.inl ⟨by rfl, ?hg17⟩) HQ16.out ?rg17
          case hg17 => (intro wz hSw; go_simp <;> with_reducible rfl)
          (try simp only [Act.put, List.setIfInBounds_toArray, List.set_cons_zero, List.set_cons_succ])
          refine wpAnyH_take (i := 18) (oi := ⟨some 129, Op.pick (Operand.tmp 127) (Operand.const (Value.bool true)) (Operand.tmp 128), 4, _, _, some (12, true)⟩) (v := ?vg18) rfl (by kernel_rfl) (by kernel_rfl) (by kernel_rfl) (fun _ _ _ h => h) (Or.inl ⟨by rfl, ?hg18⟩) HQ16.out ?rg18
          case hg18 => (intro wz hSw; go_simp <;> with_reducible rfl)
          (try simp only [Act.put, List.setIfInBounds_toArray, List.set_cons_zero, List.set_cons_succ])
          refine wpAnyH_take (i := 19) (oi := ⟨some 130, Op.pick (Operand.tmp 123) (Operand.tmp 129) (Operand.const (Value.bool false)), 4, _, _, none⟩) (v := ?vg19) rfl (by kernel_rfl) (by kernel_rfl) (by kernel_rfl) (fun _ _ _ h => h) (Or.inl ⟨by rfl, ?hg19⟩) HQ16.out ?rg19
          case hg19 => (intro wz hSw; go_simp <;> with_reducible rfl)
          (try simp only [Act.put, List.setIfInBounds_toArray, List.set_cons_zero, List.set_cons_succ])
          refine wpAnyH_take (i := 20) (oi := ⟨some 131, Op.move (Operand.tmp 130), 4, _, _, none⟩) (v := ?vg20) rfl (by kernel_rfl) (by kernel_rfl) (by kernel_rfl) (fun _ _ _ h => h) (Or.inl ⟨by rfl, ?hg20⟩) HQ16.out ?rg20
          case hg20 => (intro wz hSw; go_simp <;> with_reducible rfl)
          (try simp only [Act.put, List.setIfInBounds_toArray, List.set_cons_zero, List.set_cons_succ])
          refine wpAnyH_take (i := 21) (oi := ⟨some 132, Op.move (Operand.tmp 3), 3, _, _, some (20, true)⟩) (v := ?vg21) rfl (by kernel_rfl) (by kernel_rfl) (by kernel_rfl) (fun _ _ _ h => h) (Or.inl ⟨by rfl, ?hg21⟩) HQ16.out ?rg21
          case hg21 => (intro wz hSw; go_simp <;> with_reducible rfl)
          (try simp only [Act.put, List.setIfInBounds_toArray, List.set_cons_zero, List.set_cons_succ])
          refine wpAnyH_take (i := 22) (oi := ⟨some 133, Op.binOp BinOp.neq 3 (Operand.tmp 132) (Operand.const (Value.int IntKind.i64 0)) 3, 4, _, _, some (20, true)⟩) (v := .bool true) rfl (by kernel_rfl) (by kernel_rfl) (by kernel_rfl) (fun _ _ _ h => h) (Or.inl ⟨by rfl, ?hg22⟩) HQ16.out ?rg22
          case hg22 => (intro wz hSw; go_simp <;> with_reducible rfl)
          (try simp only [Act.put, List.setIfInBounds_toArray, List.set_cons_zero, List.set_cons_succ])
          refine wpAnyH_take (i := 23) (oi := ⟨some 134, Op.move (Operand.tmp 133), 4, _, _, some (20, true)⟩) (v := ?vg23) rfl (by kernel_rfl) (by kernel_rfl) (by kernel_rfl) (fun _ _ _ h => h) (Or.inl ⟨by rfl, ?hg23⟩) HQ16.out ?rg23
          case hg23 => (intro wz hSw; go_simp <;> with_reducible rfl)
          (try simp only [Act.put, List.setIfInBounds_toArray, List.set_cons_zero, List.set_cons_succ])
          refine wpAnyH_take (i := 24) (oi := ⟨some 135, Op.load 23 (Operand.tmp 13), 23, _, _, some (23, false)⟩) (v := undef) rfl (by kernel_rfl) (by kernel_rfl) (by kernel_rfl) (fun _ _ _ h => h) (Or.inr ⟨by rfl, rfl⟩) HQ16.out ?rg24
          (try simp only [Act.put, List.setIfInBounds_toArray, List.set_cons_zero, List.set_cons_succ])
          refine wpAnyH_take (i := 25) (oi := ⟨some 136, Op.load 23 (Operand.tmp 6), 23, _, _, some (23, false)⟩) (v := undef) rfl (by kernel_rfl) (by kernel_rfl) (by kernel_rfl) (fun _ _ _ h => h) (Or.inr ⟨by rfl, rfl⟩) HQ16.out ?rg25
          (try simp only [Act.put, List.setIfInBounds_toArray, List.set_cons_zero, List.set_cons_succ])
          refine wpAnyH_take (i := 26) (oi := ⟨some 137, Op.binOp BinOp.eql 23 (Operand.tmp 135) (Operand.tmp 136) 23, 4, _, _, some (23, false)⟩) (v := undef) rfl (by kernel_rfl) (by kernel_rfl) (by kernel_rfl) (fun _ _ _ h => h) (Or.inr ⟨by rfl, rfl⟩) HQ16.out ?rg26
          (try simp only [Act.put, List.setIfInBounds_toArray, List.set_cons_zero, List.set_cons_succ])
          refine wpAnyH_take (i := 27) (oi := ⟨some 138, Op.pick (Operand.tmp 134) (Operand.const (Value.bool true)) (Operand.tmp 137), 4, _, _, some (20, true)⟩) (v := ?vg27) rfl (by kernel_rfl) (by kernel_rfl) (by kernel_rfl) (fun _ _ _ h => h) (Or.inl ⟨by rfl, ?hg27⟩) HQ16.out ?rg27
          case hg27 => (intro wz hSw; go_simp <;> with_reducible rfl)
          (try simp only [Act.put, List.setIfInBounds_toArray, List.set_cons_zero, List.set_cons_succ])
          refine wpAnyH_take (i := 28) (oi := ⟨some 139, Op.pick (Operand.tmp 131) (Operand.tmp 138) (Operand.const (Value.bool false)), 4, _, _, none⟩) (v := ?vg28) rfl (by kernel_rfl) (by kernel_rfl) (by kernel_rfl) (fun _ _ _ h => h) (Or.inl ⟨by rfl, ?hg28⟩) HQ16.out ?rg28
          case hg28 => (intro wz hSw; go_simp <;> with_reducible rfl)
          (try simp only [Act.put, List.setIfInBounds_toArray, List.set_cons_zero, List.set_cons_succ])
          refine wpAnyH_take (i := 29) (oi := ⟨some 10, Op.assign (Operand.tmp 139), 4, _, _, none⟩) (v := ?vg29) rfl (by kernel_rfl) (by kernel_rfl) (by kernel_rfl) (fun _ _ _ h => h) (Or.inl ⟨by rfl, ?hg29⟩) HQ16.out ?rg29
          case hg29 => (intro wz hSw; go_simp <;> with_reducible rfl)
          (try simp only [Act.put, List.setIfInBounds_toArray, List.set_cons_zero, List.set_cons_succ])
          refine wpAnyH_done (by kernel_rfl) ?_ _
          refine NoPanic.normal ?_
          go_wp2
          go_ret
          exact ⟨rfl, HQ16.out.gg.below⟩

theorem main_way (W : World) (gw gh : Int) (A : Option Addr) (c : Nat) (l : List Bool) (hr : RB W W.heap.size A l) (ax ay bx by' n m : Int) (h1 : Fits ax) (h2 : Fits ay) (h3 : Fits bx) (h4 : Fits by') (f0 : (l.length : Int) ≤ 1024) (f1 : 0 ≤ n) (f2 : 0 ≤ m) (f3 : n ≤ 1048576) (f4 : m ≤ 1048576)
    (ha : inB gw gh l.length ax ay = true) (hb : inB gw gh l.length bx by' = true) :
    Calls Try.prog 6 #[gv gw gh A l.length c, pv ax ay, pv bx by', .int .i64 n, .int .i64 m] W fun e w' => e = .returned (.bool true) ∧ Below W.heap.size W w' := by
  have hc := came ha hb f1 f2 (m := m)
  have tt : ∀ (x y i : Int), Fits i → ∀ V : World, GAt gw gh A l.length c ax ay bx by' W V → Calls Try.prog 15 #[gv gw gh A l.length c, pv x y, pv bx by', .int .i64 i] V fun e w' => e = .returned (pv (tow gw gh l x y bx by' i).1 (tow gw gh l x y bx by' i).2) ∧ Below V.heap.size V w' :=
    fun x y i hi V h => toward_any gw gh A l c x y bx by' i V W.heap.size (hr.below h.below (Nat.le_refl _)) h.below.size hi
  have e4 := tt ax ay (n + m) ⟨by omega, by omega⟩
  rw [hc.more] at e4
  have hp := at_in hc.tile
  have e1 := tt ax ay n ⟨by omega, by omega⟩
  generalize (tow gw gh l ax ay bx by' n).1 = px at hc hp e1 e4
  generalize (tow gw gh l ax ay bx by' n).2 = py at hc hp e1 e4
  have fx : Fits px := ⟨by omega, by omega⟩
  have fy : Fits py := ⟨by omega, by omega⟩
  have s2 : ∀ V : World, Calls Try.prog 10 #[pv px py, pv bx by'] V fun e w' => e = .returned (.int .i64 (stp ax ay bx by' - stp ax ay px py)) ∧ Below V.heap.size V w' := fun V => by
    have := Con.steps_any px py bx by' V fx fy h3 h4
    rwa [hc.nearer] at this
  refine core W gw gh A c l ax ay bx by' px py _ _ _ _ (stp ax ay px py) (stp ax ay bx by') n m (wallB gw gh l px py) f0 f1 f2 f3 f4 (Lib.hid e1) (Lib.hid (tt px py m ⟨by omega, by omega⟩)) (Lib.hid (tt px py 1 ⟨by omega, by omega⟩)) (Lib.hid e4)
    (Lib.hid fun V h => wall_any gw gh A l c px py V W.heap.size (hr.below h.below (Nat.le_refl _)) h.below.size) (Lib.hid fun V => by have := in_any gw gh A l.length c ax ay V; rwa [ha] at this) (Lib.hid fun V => by have := in_any gw gh A l.length c bx by' V; rwa [hb] at this) (Lib.hid fun V => by have := in_any gw gh A l.length c px py V; rwa [hc.tile] at this)
    (Lib.hid fun V => Con.steps_any ax ay px py V h1 h2 fx fy) (Lib.hid s2) (Lib.hid fun V => Con.steps_any ax ay bx by' V h1 h2 h3 h4) ⟨stp_nonneg _ _ _ _, hc.few⟩ ⟨stp_nonneg _ _ _ _, (stp_fits _ _ _ _).2, by rw [← hc.nearer]; exact stp_nonneg _ _ _ _⟩
    (Lib.hid hc.free) (Lib.hid ?_) (Lib.hid hc.none')
  rcases hc.ends with h | h | h
  · exact .inl h
  · exact .inr (.inl h)
  · exact .inr (.inr ⟨by rw [h], by rw [h]⟩)

theorem walk (W : World) (gw gh : Int) (A : Option Addr) (c : Nat) (l : List Bool) (fw : Fits gw) (fh : Fits gh) (hr : RB W W.heap.size A l) (ax ay : Int) (h1 : Fits ax) (h2 : Fits ay) (bx by' : Int) (h3 : Fits bx) (h4 : Fits by') (n : Int) (h5 : Fits n) (m : Int) (h6 : Fits m) :
    Calls Try.prog 6 #[gv gw gh A l.length c, pv ax ay, pv bx by', .int .i64 n, .int .i64 m] W fun e w' => e = .returned (.bool true) ∧ Below W.heap.size W w' := by
  by_cases hc : ¬ ((l.length : Int) ≤ 1024) ∨ n < 0 ∨ m < 0 ∨ 1048576 < n ∨ 1048576 < m
  · exact early W gw gh A c l.length ax ay bx by' n m hc
  · have f0 : (l.length : Int) ≤ 1024 := by omega
    cases hI : inB gw gh l.length ax ay && inB gw gh l.length bx by' with
    | false => exact no_tile W gw gh A c l hr ax ay bx by' n m h5 f0 (by omega) (by omega) (by omega) (by omega) hI
    | true => exact main_way W gw gh A c l hr ax ay bx by' n m h1 h2 h3 h4 f0 (by omega) (by omega) (by omega) (by omega) (by rw [Bool.and_eq_true] at hI; exact hI.1) (by rw [Bool.and_eq_true] at hI; exact hI.2)


set_option maxRecDepth 100000 in
theorem lifted (os : Os) (started : os.Started) (H : Type) (enc : TypeId × Value → H) :
    ReturnsInHanded {} Try.checked os 6 .any (Rows.gridNearerSpec.pre6 enc Try.prog Try.f6 Rows.gridNearerRow.domain false) (Rows.gridNearerSpec.post enc Try.prog Try.f6 false true false false) := by
  refine returnsInHanded_of_change (C := Try.checked) own started (by kernel_rfl) Try.func6
    (ChangeSpec.witness6 (enc := enc) (C := Try.checked) false ⟨#[], #[.agg #[.int .i64 0, .int .i64 0, .slice none 0 0], .agg #[.int .i64 0, .int .i64 0], .agg #[.int .i64 0, .int .i64 0], .int .i64 0, .int .i64 0], []⟩ 8 (by kernel_rfl) (by kernel_rfl) (by kernel_rfl) (by kernel_rfl)) ?_
  intro W base args ds gs before hval0 hW hcnd _
  have hval : ∀ (j : Nat) t v, Try.f6.params[j]? = some t → args[j]? = some v → Value.okWide Try.prog W .any base t v := hval0
  have hW' := hW
  obtain ⟨p, q, hA0, hV, rfl, hfz, hnd⟩ := hW
  have hA : DataW.TrodAll enc Try.prog W 0 (fun _ => true) true Try.f6.params.toList args.toList ds p := hA0
  rw [Try.params6] at hA hval
  obtain ⟨v0, vs0, d0, ds0, p0, q0, hargs, rfl, rfl, h0, r0⟩ := trodAll_cons hA
  obtain ⟨v1, vs1, d1, ds1, p1, q1, rfl, rfl, rfl, h1, r1⟩ := trodAll_cons r0
  obtain ⟨v2, vs2, d2, ds2, p2, q2, rfl, rfl, rfl, h2, r2⟩ := trodAll_cons r1
  obtain ⟨v3, vs3, d3, ds3, p3, q3, rfl, rfl, rfl, h3, r3⟩ := trodAll_cons r2
  obtain ⟨v4, vs4, d4, ds4, p4, q4, rfl, rfl, rfl, h4, r4⟩ := trodAll_cons r3
  obtain ⟨rfl, rfl, rfl⟩ := trodAll_nil r4
  obtain rfl : args = #[v0, v1, v2, v3, v4] := by cases args; simp_all
  obtain ⟨rfl, rfl⟩ := trodVars_none hV
  clear hA0 hval0
  have hlt0 : ∀ x ∈ p0, x.block < W.heap.size := fun x hx => hW'.lt x (by simp [hx])
  have hk0 := h0
  obtain ⟨gw0, gh0, A0, c0, l0, rfl, fw0, fh0, hr0⟩ := Open.viewG (hval 0 29 v0 rfl rfl) h0 hlt0
  have hlt1 : ∀ x ∈ p1, x.block < W.heap.size := fun x hx => hW'.lt x (by simp [hx])
  have hk1 := h1
  obtain ⟨x1, y1, rfl, fx1, fy1⟩ := Open.viewP (hval 1 23 v1 rfl rfl) h1
  have hlt2 : ∀ x ∈ p2, x.block < W.heap.size := fun x hx => hW'.lt x (by simp [hx])
  have hk2 := h2
  obtain ⟨x2, y2, rfl, fx2, fy2⟩ := Open.viewP (hval 2 23 v2 rfl rfl) h2
  obtain ⟨a3, rfl, rfl, rfl, w3⟩ := open_int Try.underlying3 (hval 3 3 v3 rfl rfl) h3
  obtain ⟨a4, rfl, rfl, rfl, w4⟩ := open_int Try.underlying3 (hval 4 3 v4 rfl rfl) h4
  simp only [List.append_nil] at hW'
  refine (walk W gw0 gh0 A0 c0 l0 fw0 fh0 hr0 x1 y1 fx1 fy1 x2 y2 fx2 fy2 a3 (Open.fits_of w3) a4 (Open.fits_of w4)).mono fun e W' ⟨he, hg⟩ => ?_
  subst he
  exact ⟨_, rfl, _, _, _, [], _, [], hW', (trodAll_cons_mk (shut_bool Try.underlying4 _) trodAll_mk0), (trodAll_cons_mk (Below.trod Open.laidOut (by kernel_rfl) (of_decide_eq_true (by kernel_rfl)) hk0 hg hlt0) (trodAll_cons_mk (Below.trod Open.laidOut (by kernel_rfl) (of_decide_eq_true (by kernel_rfl)) hk1 hg hlt1) (trodAll_cons_mk (Below.trod Open.laidOut (by kernel_rfl) (of_decide_eq_true (by kernel_rfl)) hk2 hg hlt2) (trodAll_cons_mk (shut_int Try.underlying3 w3) (trodAll_cons_mk (shut_int Try.underlying3 w4) trodAll_mk0))))), rfl, hg.frame _, fun h => by cases h⟩

theorem over : Rows.gridNearerRow.holds Try.pinned (OpenSpec.ofChange Rows.gridNearerSpec) :=
  OpenClaim.holds_of_wide 6 Try.f6 rfl rfl rfl rfl rfl rfl rfl ⟨rfl, rfl, rfl, rfl, rfl⟩ rfl rfl rfl rfl rfl (by kernel_rfl) Try.func6 (by kernel_rfl)
    (of_decide_eq_true (by kernel_rfl)) (by unfold Func.isWrapper; first | (rw [if_pos (by decide +kernel)]; kernel_rfl) | (rw [if_neg (by decide +kernel)]; exact ⟨rfl, rfl⟩))
    (fun os started H enc _ => lifted os started H enc)

/-- The given statement. -/
theorem proved : Rows.GridNearerSaid :=
  over
#print axioms proved
end Go.Proofs.Ytccfoeokadggaaa.gridNearer
