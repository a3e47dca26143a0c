/-
  SightWalls: for every grid, every two tiles and every number the law answers true (without walls one sees everywhere, a wall more never lets one see more, First tells a wall of the line just where one does not see); no condition.
-/
import Derived.Test.YtiggpmennomplaaSma
import Derived.Test.YtiggpmennomplaaNds
import Derived.Test.YtiggpmennomplaaOpen
import Derived.Deep.Cut
import Derived.WalkKit
import Derived.ProofKit
import Derived.OpenShut
namespace Go.Proofs.Ytiggpmennomplaa.sightWalls
open Go.ChangeShapes Go.WideShapes Go.ChangeAt Go.RowKit Con Wlk Lin Arn
set_option linter.unusedVariables false

theorem own : ownKnob Try.prog.godebug = none := by kernel_rfl

theorem rb_at {W V : World} {A : Option Addr} {l : List Bool} (h : RB W W.heap.size A l) (hb : Below W.heap.size W V) : RB V V.heap.size A l := by
  rcases h.below hb (Nat.le_refl _) with e | ⟨b, off, e, hlt, hc⟩
  · exact .inl e
  · exact .inr ⟨b, off, e, Nat.lt_of_lt_of_le hlt hb.size, hc⟩

/-- A block of truths reads as the list. -/
def Row (V : World) (r : Nat) (l : List Bool) : Prop := ∃ cur, V.heap[r]? = some (.cells cur 4 (0, 0)) ∧ ∀ (k : Nat) x, l[k]? = some x → cur[k]? = some (.bool x)
theorem Row.lt {V : World} {r : Nat} {l : List Bool} (h : Row V r l) : r < V.heap.size := by obtain ⟨cur, h1, _⟩ := h; exact (Array.getElem?_eq_some_iff.1 h1).1
theorem Row.of {V V' : World} {r : Nat} {l : List Bool} (h : Row V r l) (hb : Below V.heap.size V V') : Row V' r l := by obtain ⟨cur, h1, h2⟩ := h; exact ⟨cur, (hb.block _ (Array.getElem?_eq_some_iff.1 h1).1).trans h1, h2⟩
theorem Row.rb {V : World} {r : Nat} {l : List Bool} (h : Row V r l) : RB V V.heap.size (some ⟨r, 0, none⟩) l := by
  obtain ⟨cur, h1, h2⟩ := h
  exact .inr ⟨r, 0, rfl, (Array.getElem?_eq_some_iff.1 h1).1, fun k x hx => by simp [World.cell?, h1, h2 k x hx]⟩
theorem Row.far {V : World} {r : Nat} {l : List Bool} (h : Row V r l) (p : Addr) (v : Value) (hp : r ≠ p.block) : Row (V.setCell p v) r l := by obtain ⟨cur, h1, h2⟩ := h; exact ⟨cur, (Below.heap_setCell V p v r hp).trans h1, h2⟩
theorem Row.put {V : World} {r : Nat} {l : List Bool} (h : Row V r l) (j : Nat) (hj : j < l.length) : Row (V.setCell ⟨r, j, none⟩ (.bool true)) r (l.set j true) := by
  obtain ⟨cur, h1, h2⟩ := h
  refine ⟨cur.setIfInBounds j (.bool true), set_same h1 j _, fun k x hx => ?_⟩
  by_cases e : j = k
  · subst e
    rw [List.getElem?_set_self hj] at hx
    injection hx with hx; subst hx
    have hc := h2 j l[j] (List.getElem?_eq_getElem hj)
    rw [Array.getElem?_setIfInBounds_self_of_lt (Array.getElem?_eq_some_iff.1 hc).1]
  · rw [List.getElem?_set_ne e] at hx
    rw [Array.getElem?_setIfInBounds_ne e]
    exact h2 k x hx
theorem Row.cell {V : World} {r : Nat} {l : List Bool} (h : Row V r l) {j : Nat} (hj : j < l.length) : V.cell? ⟨r, j, none⟩ = some (.bool l[j]) ∧ V.frozen? ⟨r, j, none⟩ = false := by
  obtain ⟨cur, h1, h2⟩ := h
  have hc := h2 j l[j] (List.getElem?_eq_getElem hj)
  exact ⟨by simp [World.cell?, h1, hc], by simp [World.frozen?, h1]⟩
theorem row_made (w : World) (n : Nat) : Row (w.alloc (.cells (madeCells #[.bool false] n) 4)) w.heap.size (List.replicate n false) := by
  refine ⟨_, new_at _ _ rfl, fun k x hx => ?_⟩
  rw [← Array.getElem?_toList, toList_madeCells_one]
  rw [List.getElem?_replicate] at hx ⊢
  split at hx
  · next h => injection hx with hx; subst hx; rw [if_pos h]
  · cases hx
theorem row_own {V : World} {base g n cap : Nat} {l : List Bool} (hn : l.length = n) (h : V.ownsRow base 4 1 (.slice (some ⟨g, 0, none⟩) n cap) n (l.map Value.bool)) (h0 : 0 < n) : Row V g l := by
  rcases h.2 with ⟨e, _⟩ | ⟨g', cap', cur, e, _, hh, _, _, _, hx⟩
  · cases e
  · injection e with e1 _ e3
    injection e1 with e1; injection e1 with e1
    subst e1
    refine ⟨cur, hh, fun k x hk => ?_⟩
    rw [← Array.getElem?_toList]
    have hk2 : (l.map Value.bool)[k]? = some (.bool x) := by simp [hk]
    rw [← hx] at hk2
    rw [List.getElem?_take] at hk2
    split at hk2
    · exact hk2
    · cases hk2
theorem own0 (V : World) : (V.alloc (.cells #[] 4)).ownsRow V.heap.size 4 1 (.slice (some ⟨V.heap.size, 0, none⟩) 0 0) 0 [] := ⟨rfl, .inr ⟨V.heap.size, 0, #[], rfl, Nat.le_refl _, new_at _ _ rfl, Nat.le_refl _, by unfold maxLen; omega, rfl, rfl⟩⟩
theorem and_low (k : Int) : 0 ≤ bits BinOp.and IntKind.i64 k 4095 ∧ bits BinOp.and IntKind.i64 k 4095 ≤ 4095 := by
  have h : bits BinOp.and IntKind.i64 k 4095 = IntKind.i64.wrap ((BitVec.ofInt 64 k &&& BitVec.ofInt 64 4095).toNat : Int) := rfl
  have h2 : (BitVec.ofInt 64 k &&& BitVec.ofInt 64 4095).toNat ≤ 4095 := by
    rw [BitVec.toNat_and]
    exact Nat.le_trans Nat.and_le_right (by decide)
  rw [h, IntWalk.i64_in _ (by omega)]
  omega
theorem pick_at (k : Int) {n : Nat} (hn : 1 ≤ n) : ∃ (m : Int) (j : Nat), bits BinOp.and IntKind.i64 k 4095 = m ∧ 0 ≤ m ∧ m ≤ 4095 ∧ Int.tmod m (n : Int) = (j : Int) ∧ j < n := by
  have h := and_low k
  refine ⟨_, (Int.tmod (bits BinOp.and IntKind.i64 k 4095) (n : Int)).toNat, rfl, h.1, h.2, ?_, ?_⟩
  · have := Int.tmod_nonneg (n : Int) h.1
    omega
  · have h1 := Int.tmod_lt_of_pos (bits BinOp.and IntKind.i64 k 4095) (show (0 : Int) < n by omega)
    have := Int.tmod_nonneg (n : Int) h.1
    omega
theorem at_new {e g m : Nat} (h : (some e : Option Nat) = some g ∨ g = m) : g = e ∨ g = m := by
  rcases h with h | h
  · injection h with h; exact .inl h.symm
  · exact .inr h
theorem one_cell (l : List Bool) : ∀ u ∈ l.map Value.bool, u.oneCell' = true := by
  intro u hu
  obtain ⟨x, _, rfl⟩ := List.mem_map.1 hu
  rfl
/-- A grid in a box. -/
def GBox (V : World) (P : Nat) (gw gh : Int) (r n c : Nat) : Prop := V.heap[P]? = some (.cells #[.int .i64 gw, .int .i64 gh, .slice (some ⟨r, 0, none⟩) n c] 24 (0, 0))
def ZBox (V : World) (P : Nat) : Prop := V.heap[P]? = some (.cells #[.int .i64 0, .int .i64 0, .slice none 0 0] 24 (0, 0))
theorem GBox.of {V V' : World} {P : Nat} {gw gh : Int} {r n c : Nat} (h : GBox V P gw gh r n c) (hb : Below V.heap.size V V') : GBox V' P gw gh r n c := (hb.block _ (Array.getElem?_eq_some_iff.1 h).1).trans h
theorem GBox.far {V : World} {P : Nat} {gw gh : Int} {r n c : Nat} (h : GBox V P gw gh r n c) (p : Addr) (v : Value) (hp : P ≠ p.block) : GBox (V.setCell p v) P gw gh r n c := (Below.heap_setCell V p v P hp).trans h
theorem GBox.lt {V : World} {P : Nat} {gw gh : Int} {r n c : Nat} (h : GBox V P gw gh r n c) : P < V.heap.size := (Array.getElem?_eq_some_iff.1 h).1
theorem GBox.cells {V : World} {P : Nat} {gw gh : Int} {r n c : Nat} (h : GBox V P gw gh r n c) : V.cell? ⟨P, 0, none⟩ = some (.int .i64 gw) ∧ V.cell? ⟨P, 1, none⟩ = some (.int .i64 gh) ∧ V.cell? ⟨P, 2, none⟩ = some (.slice (some ⟨r, 0, none⟩) n c) := by
  unfold GBox at h
  refine ⟨?_, ?_, ?_⟩ <;> simp [World.cell?, h]
theorem ZBox.of {V V' : World} {P : Nat} (h : ZBox V P) (hb : Below V.heap.size V V') : ZBox V' P := (hb.block _ (Array.getElem?_eq_some_iff.1 h).1).trans h
theorem ZBox.grown {V V' : World} {P : Nat} {row : Option Nat} (h : ZBox V P) (hg : V.grownBy V' row) (hr : row ≠ some P) : ZBox V' P := (hg.block P (Array.getElem?_eq_some_iff.1 h).1 (fun e => hr e.symm)).trans h
theorem ZBox.lt {V : World} {P : Nat} (h : ZBox V P) : P < V.heap.size := (Array.getElem?_eq_some_iff.1 h).1
theorem ZBox.new (V : World) : ZBox (V.alloc (.cells #[.int .i64 0, .int .i64 0, .slice none 0 0] 24)) V.heap.size := new_at _ _ rfl
theorem ZBox.cells {V : World} {P : Nat} (h : ZBox V P) : (V.cell? ⟨P, 0, none⟩ = some (.int .i64 0) ∧ V.cell? ⟨P, 1, none⟩ = some (.int .i64 0) ∧ V.cell? ⟨P, 2, none⟩ = some (.slice none 0 0)) ∧ V.frozen? ⟨P, 0, none⟩ = false ∧ V.frozen? ⟨P, 1, none⟩ = false ∧ V.frozen? ⟨P, 2, none⟩ = false := by
  unfold ZBox at h
  refine ⟨⟨?_, ?_, ?_⟩, ?_, ?_, ?_⟩ <;> simp [World.cell?, World.frozen?, h]
abbrev put3 (V : World) (P : Nat) (gw gh : Int) (r n c : Nat) : World := ((V.setCell ⟨P, 0, none⟩ (.int .i64 gw)).setCell ⟨P, 1, none⟩ (.int .i64 gh)).setCell ⟨P, 2, none⟩ (.slice (some ⟨r, 0, none⟩) n c)
theorem ZBox.put {V : World} {P : Nat} (h : ZBox V P) (gw gh : Int) (r n c : Nat) : GBox (put3 V P gw gh r n c) P gw gh r n c := by
  unfold ZBox at h
  have h1 := set_same h 0 (.int .i64 gw)
  have h2 := set_same h1 1 (.int .i64 gh)
  have h3 := set_same h2 2 (.slice (some ⟨r, 0, none⟩) n c)
  exact h3.trans (by simp)
theorem Row.far3 {V : World} {q : Nat} {l : List Bool} (h : Row V q l) {P : Nat} (hp : q ≠ P) (gw gh : Int) (r n c : Nat) : Row (put3 V P gw gh r n c) q l := ((h.far _ _ hp).far _ _ hp).far _ _ hp
theorem below3 {V V' : World} {P : Nat} {n₀ : Nat} (h : Below n₀ V V') (hp : n₀ ≤ P) (gw gh : Int) (r n c : Nat) : Below n₀ V (put3 V' P gw gh r n c) := ((h.setCell (p := ⟨P, 0, none⟩) hp _).setCell (p := ⟨P, 1, none⟩) hp _).setCell (p := ⟨P, 2, none⟩) hp _
theorem info4 : (Try.prog.info? 4).map (fun i => (i.zero, i.size, i.bytes)) = some (some (.bool false), 1, 1) := by kernel_rfl
theorem makeN (n : Nat) (hn : (n : Int) ≤ 1024) (w : World) : (Instr.makeSlice 22 (.int .i64 (n : Int)) (.int .i64 (n : Int))).run Try.prog w = .ok (.slice (some ⟨w.heap.size, 0, none⟩) n n) (w.alloc (.cells (madeCells #[.bool false] n) 4)) := by
  obtain ⟨i0, hi0, hz0, hz1, hz2⟩ := info_parts info4
  have hr := run_make (P := Try.prog) w 22 4 i0 _ Try.underlying22 hi0 hz0 .i64 .i64 n n (by omega) (by omega) (by rw [hz2]; omega) (by omega)
  have e : (Value.bool false).cells = #[Value.bool false] := rfl
  rw [hz1, e] at hr
  simpa using hr
/-- What holds while a wall is laid into the row at g. -/
def SK (w5 w6 : World) (P2 : Nat) (gw gh : Int) (g n cap : Nat) (V : World) : Prop := Below w5.heap.size w5 V ∧ GBox V P2 gw gh g n cap
theorem SK.put {w5 w6 : World} {P2 : Nat} {gw gh : Int} {g n cap j : Nat} {V : World} (h : SK w5 w6 P2 gw gh g n cap V.drew) (hg : w5.heap.size ≤ g) (hne : P2 ≠ g) : SK w5 w6 P2 gw gh g n cap (V.setCell ⟨g, j, none⟩ (.bool true)).drew :=
  ⟨(h.1.setCell (p := ⟨g, j, none⟩) hg (.bool true)), GBox.far h.2 ⟨g, j, none⟩ (.bool true) hne⟩
theorem first_facts {W : World} {gw gh : Int} {A : Option Addr} {c : Nat} {l : List Bool} {ax ay bx by' : Int} (hr : RB W W.heap.size A l) (hb : bothB gw gh l.length ax ay bx by' = true) :
    ∃ (px py : Int) (is : Bool), (∀ V : World, Below W.heap.size W V → Calls Try.prog 9 #[gv gw gh A l.length c, pv ax ay, pv bx by'] V fun e w' => e = .returned (.tuple #[pv px py, .bool is]) ∧ Below V.heap.size V w') ∧ seesB gw gh l ax ay bx by' = !is ∧
      (is = true → wallB gw gh l px py = true ∧ hasB (lineG gw gh l.length ax ay bx by') px py = true ∧ ¬ (px = ax ∧ py = ay) ∧ ¬ (px = bx ∧ py = by')) := by
  refine ⟨ox (firstB gw gh l ax ay bx by'), oy (firstB gw gh l ax ay bx by'), (firstB gw gh l ax ay bx by').isSome, fun V hV => First_any gw gh A l c ax ay bx by' V (rb_at hr hV), ?_, fun h => ?_⟩
  · rw [first_sees hb, Bool.not_not]
  · cases ho : firstB gw gh l ax ay bx by' with
    | none => rw [ho] at h; cases h
    | some p => exact first_is hb ho
theorem set_more (l : List Bool) (j i : Nat) (h : l.getD i false = true) : (l.set j true).getD i false = true := by
  rw [List.getD_eq_getElem?_getD] at h ⊢
  rw [List.getElem?_set]
  split
  · split
    · rfl
    · next e hlt => subst e; rw [List.getElem?_eq_none (by omega)] at h; cases h
  · exact h
theorem none_set (n i : Nat) : (List.replicate n false).getD i false = false := by
  rw [List.getD_eq_getElem?_getD, List.getElem?_replicate]
  split <;> rfl
abbrev pf (b k : Nat) : Value := .pointer (some ⟨b, k, none⟩)

set_option maxRecDepth 100000 in
set_option maxHeartbeats 8000000 in
theorem walk (W : World) (gw gh : Int) (A : Option Addr) (c : Nat) (l : List Bool) (hw : Fits gw) (hh : Fits gh) (hr : RB W W.heap.size A l) (ax ay : Int) (fx : Fits ax) (fy : Fits ay) (bx by' : Int) (gx : Fits bx) (gy : Fits by') (k : Int) (fk : Fits k) :
    Calls Try.prog 6 #[gv gw gh A l.length c, pv ax ay, pv bx by', .int .i64 k] W fun e w' => e = .returned (.bool true) ∧ Below W.heap.size W w' := by
  obtain ⟨n, hn⟩ : ∃ n, l.length = n := ⟨_, rfl⟩
  have hb := gab_below gw gh A n c ax ay bx by' W
  have hg := gab_g3 gw gh A n c ax ay bx by' W
  have hf : ∀ V : World, Calls Try.prog 8 #[gv gw gh A n c] V fun e w' => e = .returned (.bool (decide ((n : Int) ≤ 1024))) ∧ Below V.heap.size V w' := fun V => few_any gw gh A n c V
  have hia : ∀ V : World, Calls Try.prog 18 #[gv gw gh A n c, pv ax ay] V fun e w' => e = .returned (.bool (inB gw gh n ax ay)) ∧ Below V.heap.size V w' := fun V => in_any gw gh A n c ax ay V
  have hib : ∀ V : World, Calls Try.prog 18 #[gv gw gh A n c, pv bx by'] V fun e w' => e = .returned (.bool (inB gw gh n bx by')) ∧ Below V.heap.size V w' := fun V => in_any gw gh A n c bx by' V
  have HB0 := Lib.hid hb
  have HG0 := Lib.hid hg
  have HN := Lib.hid hn
  rw [hn]
  clear hb hg hn
  cases hfew : decide ((n : Int) ≤ 1024) with
  | false =>
    rw [hfew] at hf
    have HF := Lib.hid hf
    clear hf hia hib hfew
    go_enter Try.func6, Try.ntmps6
    go_wp2_with (first
      | ((with_reducible refine (small_any _).mono ?_); rintro e w1 ⟨rfl, hB1⟩; have HG1 := Lib.hid (HG0.out.of hB1); obtain ⟨c0, c1, c2, c3, c4, c5, c6⟩ := HG1.out.cells; have HB1 := Lib.hid (HB0.out.trans (hB1.mono HB0.out.size)); clear hB1)
      | ((with_reducible refine (HF.out _).mono ?_); rintro e w2 ⟨rfl, hB2⟩; have HG2 := Lib.hid (HG1.out.of hB2); clear c0 c1 c2 c3 c4 c5 c6; obtain ⟨c0, c1, c2, c3, c4, c5, c6⟩ := HG2.out.cells; have HB2 := Lib.hid (HB1.out.trans (hB2.mono HB1.out.size)); clear hB2))
    go_ret
    exact ⟨rfl, HB2.out⟩
  | true =>
    rw [hfew] at hf
    have HF := Lib.hid hf
    have hn2 : (n : Int) ≤ 1024 := by simpa using hfew
    clear hf hfew
    cases ea : inB gw gh n ax ay with
    | false =>
      rw [ea] at hia
      have HIA := Lib.hid hia
      clear hia hib
      go_enter Try.func6, Try.ntmps6
      go_wp2_with (first
        | ((with_reducible refine (small_any _).mono ?_); rintro e w1 ⟨rfl, hB1⟩; have HG1 := Lib.hid (HG0.out.of hB1); obtain ⟨c0, c1, c2, c3, c4, c5, c6⟩ := HG1.out.cells; have HB1 := Lib.hid (HB0.out.trans (hB1.mono HB0.out.size)); clear hB1)
        | ((with_reducible refine (HF.out _).mono ?_); rintro e w2 ⟨rfl, hB2⟩; have HG2 := Lib.hid (HG1.out.of hB2); clear c0 c1 c2 c3 c4 c5 c6; obtain ⟨c0, c1, c2, c3, c4, c5, c6⟩ := HG2.out.cells; have HB2 := Lib.hid (HB1.out.trans (hB2.mono HB1.out.size)); clear hB2)
        | ((with_reducible refine (HIA.out _).mono ?_); rintro e w3 ⟨rfl, hB3⟩; have HG3 := Lib.hid (HG2.out.of hB3); clear c0 c1 c2 c3 c4 c5 c6; obtain ⟨c0, c1, c2, c3, c4, c5, c6⟩ := HG3.out.cells; have HB3 := Lib.hid (HB2.out.trans (hB3.mono HB2.out.size)); clear hB3))
      go_ret
      exact ⟨rfl, HB3.out⟩
    | true =>
      rw [ea] at hia
      have HIA := Lib.hid hia
      clear hia
      cases eb : inB gw gh n bx by' with
      | false =>
        rw [eb] at hib
        have HIB := Lib.hid hib
        clear hib
        go_enter Try.func6, Try.ntmps6
        go_wp2_with (first
          | ((with_reducible refine (small_any _).mono ?_); rintro e w1 ⟨rfl, hB1⟩; have HG1 := Lib.hid (HG0.out.of hB1); obtain ⟨c0, c1, c2, c3, c4, c5, c6⟩ := HG1.out.cells; have HB1 := Lib.hid (HB0.out.trans (hB1.mono HB0.out.size)); clear hB1)
          | ((with_reducible refine (HF.out _).mono ?_); rintro e w2 ⟨rfl, hB2⟩; have HG2 := Lib.hid (HG1.out.of hB2); clear c0 c1 c2 c3 c4 c5 c6; obtain ⟨c0, c1, c2, c3, c4, c5, c6⟩ := HG2.out.cells; have HB2 := Lib.hid (HB1.out.trans (hB2.mono HB1.out.size)); clear hB2)
          | ((with_reducible refine (HIA.out _).mono ?_); rintro e w3 ⟨rfl, hB3⟩; have HG3 := Lib.hid (HG2.out.of hB3); clear c0 c1 c2 c3 c4 c5 c6; obtain ⟨c0, c1, c2, c3, c4, c5, c6⟩ := HG3.out.cells; have HB3 := Lib.hid (HB2.out.trans (hB3.mono HB2.out.size)); clear hB3)
          | ((with_reducible refine (HIB.out _).mono ?_); rintro e w4 ⟨rfl, hB4⟩; have HG4 := Lib.hid (HG3.out.of hB4); clear c0 c1 c2 c3 c4 c5 c6; obtain ⟨c0, c1, c2, c3, c4, c5, c6⟩ := HG4.out.cells; have HB4 := Lib.hid (HB3.out.trans (hB4.mono HB3.out.size)); clear hB4))
        go_ret
        exact ⟨rfl, HB4.out⟩
      | true =>
        rw [eb] at hib
        have HIB := Lib.hid hib
        have hn1 : 1 ≤ n := by have := at_in ea; omega
        have hn0 : ((n : Int) == 0) = false := by simp; omega
        rcases hr with e | ⟨b0, off0, rfl, hblt, hbc⟩
        · rw [e] at HN; have := HN.out; simp at this; omega
        have hnews : ∀ V : World, Below W.heap.size W V → ∀ j u, (l.map Value.bool)[j]? = some u → V.cell? ((⟨b0, off0, none⟩ : Addr).add j) = some u := fun V hV j u hu => by
          rw [List.getElem?_map] at hu
          cases hj : l[j]? with
          | none => rw [hj] at hu; cases hu
          | some x =>
            rw [hj] at hu
            injection hu with hu
            subst hu
            rw [add_at]
            exact (World.cell?_of_block (w := W) (hV.block b0 hblt)).trans (hbc j x hj)
        have hrW : RB W W.heap.size (some ⟨b0, off0, none⟩) l := .inr ⟨b0, off0, rfl, hblt, hbc⟩
        have HRW := Lib.hid hrW
        have HNW := Lib.hid hnews
        clear hib hbc hrW hnews
        go_enter Try.func6, Try.ntmps6
        go_wp2_with (first
          | ((with_reducible refine (small_any _).mono ?_); rintro e w1 ⟨rfl, hB1⟩; have HG1 := Lib.hid (HG0.out.of hB1); obtain ⟨c0, c1, c2, c3, c4, c5, c6⟩ := HG1.out.cells; have HB1 := Lib.hid (HB0.out.trans (hB1.mono HB0.out.size)); clear hB1)
          | ((with_reducible refine (HF.out _).mono ?_); rintro e w2 ⟨rfl, hB2⟩; have HG2 := Lib.hid (HG1.out.of hB2); clear c0 c1 c2 c3 c4 c5 c6; obtain ⟨c0, c1, c2, c3, c4, c5, c6⟩ := HG2.out.cells; have HB2 := Lib.hid (HB1.out.trans (hB2.mono HB1.out.size)); clear hB2)
          | ((with_reducible refine (HIA.out _).mono ?_); rintro e w3 ⟨rfl, hB3⟩; have HG3 := Lib.hid (HG2.out.of hB3); clear c0 c1 c2 c3 c4 c5 c6; obtain ⟨c0, c1, c2, c3, c4, c5, c6⟩ := HG3.out.cells; have HB3 := Lib.hid (HB2.out.trans (hB3.mono HB2.out.size)); clear hB3)
          | ((with_reducible refine (HIB.out _).mono ?_); rintro e w4 ⟨rfl, hB4⟩; have HG4 := Lib.hid (HG3.out.of hB4); clear c0 c1 c2 c3 c4 c5 c6; obtain ⟨c0, c1, c2, c3, c4, c5, c6⟩ := HG4.out.cells; have HB4 := Lib.hid (HB3.out.trans (hB4.mono HB3.out.size)); clear hB4))
        have hmk := makeN n hn2
        refine Code.wp_mono (Q := fun e a' w' => ∃ r P, e = .normal ∧ Row w' r (List.replicate n false) ∧ GBox w' P gw gh r n n ∧ Below w4.heap.size w4 w' ∧ P ≠ r ∧ (w4.heap.size ≤ r ∧ w4.heap.size ≤ P) ∧ a' = ({ tmps := #[gv gw gh (some ⟨b0, off0, none⟩) n c, pv ax ay, pv bx by', .int .i64 k, pf W.heap.size 0, pf (W.heap.size + 1) 0, pf (W.heap.size + 1 + 1) 0, undef, .bool false, .bool true, .bool true, pf P 0, undef, undef, undef, .bool true, gv gw gh (some ⟨b0, off0, none⟩) n c, .bool true, .bool true, .bool false, .bool false, gv gw gh (some ⟨b0, off0, none⟩) n c, pv ax ay, .bool true, .bool false, .bool false, .bool false, gv gw gh (some ⟨b0, off0, none⟩) n c, pv bx by', .bool true, .bool false, .bool false, .bool false, pf W.heap.size 2, .slice (some ⟨b0, off0, none⟩) n c, .int .i64 (n : Int), .bool false, .bool false, undef, pf W.heap.size 0, .int .i64 gw, pf W.heap.size 1, .int .i64 gh, pf W.heap.size 2, .slice (some ⟨b0, off0, none⟩) n c, .int .i64 (n : Int), .slice (some ⟨r, 0, none⟩) n n, gv gw gh (some ⟨r, 0, none⟩) n n, undef, undef, undef, undef, undef, undef, undef, undef, undef, undef, undef, undef, undef, undef, undef, undef, undef, undef, undef, undef, undef, undef, undef, undef, undef, undef, undef, undef, undef, undef, undef, undef, undef, undef, undef, undef, undef, undef, undef, undef, undef, undef, undef, undef, undef, undef, undef, undef, undef, undef, undef, undef, undef, undef, undef, undef, undef, undef, undef, undef, undef, undef, undef, undef, undef, undef, undef, undef, undef, undef, undef, undef, undef, undef, undef, undef, undef, undef, undef, undef, undef, undef, undef, undef, undef, undef], defers := [] } : Act)) ?post5 ?reg5
        case reg5 =>
          have hS0 : Below w4.heap.size w4 w4.drew := (Below.refl _ _).drew
          refine wp_region_noPanic ?_
          refine wp_region_held_drew (S := fun w' => Below w4.heap.size w4 w') (by kernel_rfl) hS0 (fun _ => ?_)
          generalize w4.drew = v0 at hS0 ⊢
          refine wpAnyH_take (i := 0) (oi := ⟨some 39, Op.fieldAddr 24 (Operand.tmp 4) 0, 0, _, _, none⟩) (v := ?va0) rfl (by kernel_rfl) (by kernel_rfl) (by kernel_rfl) (fun _ _ _ h => h) (Or.inl ⟨by rfl, ?ha0⟩) hS0 ?ra0
          case ha0 => (intro wz hSw; go_simp <;> with_reducible rfl)
          (try simp only [Act.put, List.setIfInBounds_toArray, List.set_cons_zero, List.set_cons_succ])
          refine wpAnyH_take (i := 1) (oi := ⟨some 40, Op.load 3 (Operand.tmp 39), 3, _, _, none⟩) (v := ?va1) rfl (by kernel_rfl) (by kernel_rfl) (by kernel_rfl) (fun _ _ _ h => h) (Or.inl ⟨by rfl, ?ha1⟩) hS0 ?ra1
          case ha1 => (intro wz hSw; obtain ⟨k0, k1, k2, k3, k4, k5, k6⟩ := (HG4.out.of hSw).cells; go_simp <;> with_reducible rfl)
          (try simp only [Act.put, List.setIfInBounds_toArray, List.set_cons_zero, List.set_cons_succ])
          refine wpAnyH_take (i := 2) (oi := ⟨some 41, Op.fieldAddr 24 (Operand.tmp 4) 1, 0, _, _, none⟩) (v := ?va2) rfl (by kernel_rfl) (by kernel_rfl) (by kernel_rfl) (fun _ _ _ h => h) (Or.inl ⟨by rfl, ?ha2⟩) hS0 ?ra2
          case ha2 => (intro wz hSw; go_simp <;> with_reducible rfl)
          (try simp only [Act.put, List.setIfInBounds_toArray, List.set_cons_zero, List.set_cons_succ])
          refine wpAnyH_take (i := 3) (oi := ⟨some 42, Op.load 3 (Operand.tmp 41), 3, _, _, none⟩) (v := ?va3) rfl (by kernel_rfl) (by kernel_rfl) (by kernel_rfl) (fun _ _ _ h => h) (Or.inl ⟨by rfl, ?ha3⟩) hS0 ?ra3
          case ha3 => (intro wz hSw; obtain ⟨k0, k1, k2, k3, k4, k5, k6⟩ := (HG4.out.of hSw).cells; go_simp <;> with_reducible rfl)
          (try simp only [Act.put, List.setIfInBounds_toArray, List.set_cons_zero, List.set_cons_succ])
          refine wpAnyH_take (i := 4) (oi := ⟨some 43, Op.fieldAddr 24 (Operand.tmp 4) 2, 0, _, _, none⟩) (v := ?va4) rfl (by kernel_rfl) (by kernel_rfl) (by kernel_rfl) (fun _ _ _ h => h) (Or.inl ⟨by rfl, ?ha4⟩) hS0 ?ra4
          case ha4 => (intro wz hSw; go_simp <;> with_reducible rfl)
          (try simp only [Act.put, List.setIfInBounds_toArray, List.set_cons_zero, List.set_cons_succ])
          refine wpAnyH_take (i := 5) (oi := ⟨some 44, Op.load 22 (Operand.tmp 43), 22, _, _, none⟩) (v := ?va5) rfl (by kernel_rfl) (by kernel_rfl) (by kernel_rfl) (fun _ _ _ h => h) (Or.inl ⟨by rfl, ?ha5⟩) hS0 ?ra5
          case ha5 => (intro wz hSw; obtain ⟨k0, k1, k2, k3, k4, k5, k6⟩ := (HG4.out.of hSw).cells; go_simp <;> with_reducible rfl)
          (try simp only [Act.put, List.setIfInBounds_toArray, List.set_cons_zero, List.set_cons_succ])
          refine wpAnyH_take (i := 6) (oi := ⟨some 45, Op.call { callee := Callee.builtin Builtin.len, args := #[Operand.tmp 44], argTypes := #[22] }, 3, _, _, none⟩) (v := ?va6) rfl (by kernel_rfl) (by kernel_rfl) (by kernel_rfl) (fun _ _ _ h => h) (Or.inl ⟨by rfl, ?ha6⟩) hS0 ?ra6
          case ha6 => (intro wz hSw; go_simp <;> with_reducible rfl)
          (try simp only [Act.put, List.setIfInBounds_toArray, List.set_cons_zero, List.set_cons_succ])
          refine wpAnyH_ready (rs := [7, 9]) (by kernel_rfl) (by simp) ?_
          refine AllReadyH.cons (o := ⟨some 46, Op.makeSlice 22 (Operand.tmp 45) (Operand.tmp 45), 22, _, _, none⟩) rfl (fun K hK => ?_) (AllReadyH.cons (o := ⟨some 11, Op.alloc 24, 0, _, _, none⟩) rfl (fun K hK => ?_) AllReadyH.nil)
          · go_simp
            have hR1 := row_made v0 n; have hA1 : Below v0.heap.size v0 (v0.alloc (.cells (madeCells #[.bool false] n) 4)) := (Below.refl _ _).alloc (Nat.le_refl _) _; have hS1 := hS0.trans (hA1.mono hS0.size); have hge1 : w4.heap.size ≤ v0.heap.size := hS0.size; clear hA1; generalize hP1 : v0.heap.size = r1 at hR1 hge1 ⊢; generalize hV1 : v0.alloc _ = v1 at hR1 hS1 ⊢; clear hP1 hV1
            refine hK.out _ _ hS1 (fun _ => ?_)
            clear hK K
            (try simp only [Act.put, List.setIfInBounds_toArray, List.set_cons_zero, List.set_cons_succ])
            refine wpAnyH_take (i := 8) (oi := ⟨some 47, Op.build 24 #[(0, Operand.tmp 40), (1, Operand.tmp 42), (2, Operand.tmp 46)], 24, _, _, none⟩) (v := ?vab78) rfl (by kernel_rfl) (by kernel_rfl) (by kernel_rfl) (fun _ _ _ h => h) (Or.inl ⟨by rfl, ?hab78⟩) hS1 ?rab78
            case hab78 => (intro wz hSw; go_simp <;> with_reducible rfl)
            (try simp only [Act.put, List.setIfInBounds_toArray, List.set_cons_zero, List.set_cons_succ])
            refine wpAnyH_ready (rs := [9]) (by kernel_rfl) (by simp) ?_
            refine AllReadyH.cons (o := ⟨some 11, Op.alloc 24, 0, _, _, none⟩) rfl (fun K hK => ?_) AllReadyH.nil
            go_simp
            have hZ2 := ZBox.new v1; have hA2 : Below v1.heap.size v1 (v1.alloc (.cells #[.int .i64 0, .int .i64 0, .slice none 0 0] 24)) := (Below.refl _ _).alloc (Nat.le_refl _) _; have hS2 := hS1.trans (hA2.mono hS1.size); have hne : v1.heap.size ≠ r1 := Nat.ne_of_gt hR1.lt; have hR2 := hR1.of hA2; have hge2 : w4.heap.size ≤ v1.heap.size := hS1.size; clear hA2; generalize hP2 : v1.heap.size = P2 at hZ2 hge2 hne ⊢; generalize hV2 : v1.alloc _ = v2 at hZ2 hS2 hR2 ⊢; clear hP2 hV2
            refine hK.out _ _ hS2 (fun _ => ?_)
            clear hK K
            (try simp only [Act.put, List.setIfInBounds_toArray, List.set_cons_zero, List.set_cons_succ])
            refine wpAnyH_ready (rs := [10]) (by kernel_rfl) (by simp) ?_
            refine AllReadyH.cons (o := ⟨none, Op.store 24 (Operand.tmp 11) (Operand.tmp 47), 0, _, _, none⟩) rfl (fun K hK => ?_) AllReadyH.nil
            obtain ⟨⟨x0, x1, x2⟩, f0, f1, f2⟩ := hZ2.cells
            go_simp
            have hS3 := below3 hS2 hge2 gw gh r1 n n; have hX := hZ2.put gw gh r1 n n; have hRf := hR2.far3 (fun e => hne e.symm) gw gh r1 n n
            refine hK.out _ _ hS3 (fun _ => ?_)
            clear hK K
            (try simp only [Act.put, List.setIfInBounds_toArray, List.set_cons_zero, List.set_cons_succ])
            refine wpAnyH_done (by kernel_rfl) ?_ _
            refine NoPanic.normal ?_
            exact ⟨r1, P2, rfl, hRf, hX, hS3, hne, ⟨hge1, hge2⟩, rfl⟩
          · go_simp
            have hZ4 := ZBox.new v0; have hA4 : Below v0.heap.size v0 (v0.alloc (.cells #[.int .i64 0, .int .i64 0, .slice none 0 0] 24)) := (Below.refl _ _).alloc (Nat.le_refl _) _; have hS4 := hS0.trans (hA4.mono hS0.size); have hge4 : w4.heap.size ≤ v0.heap.size := hS0.size; clear hA4; generalize hP4 : v0.heap.size = P4 at hZ4 hge4 ⊢; generalize hV4 : v0.alloc _ = v4 at hZ4 hS4 ⊢; clear hP4 hV4
            refine hK.out _ _ hS4 (fun _ => ?_)
            clear hK K
            (try simp only [Act.put, List.setIfInBounds_toArray, List.set_cons_zero, List.set_cons_succ])
            refine wpAnyH_ready (rs := [7]) (by kernel_rfl) (by simp) ?_
            refine AllReadyH.cons (o := ⟨some 46, Op.makeSlice 22 (Operand.tmp 45) (Operand.tmp 45), 22, _, _, none⟩) rfl (fun K hK => ?_) AllReadyH.nil
            go_simp
            have hR5 := row_made v4 n; have hA5 : Below v4.heap.size v4 (v4.alloc (.cells (madeCells #[.bool false] n) 4)) := (Below.refl _ _).alloc (Nat.le_refl _) _; have hS5 := hS4.trans (hA5.mono hS4.size); have hne : P4 ≠ v4.heap.size := Nat.ne_of_lt hZ4.lt; have hZ5 := hZ4.of hA5; have hge5 : w4.heap.size ≤ v4.heap.size := hS4.size; clear hA5; generalize hP5 : v4.heap.size = r5 at hR5 hge5 hne ⊢; generalize hV5 : v4.alloc _ = v5 at hR5 hS5 hZ5 ⊢; clear hP5 hV5
            refine hK.out _ _ hS5 (fun _ => ?_)
            clear hK K
            (try simp only [Act.put, List.setIfInBounds_toArray, List.set_cons_zero, List.set_cons_succ])
            refine wpAnyH_take (i := 8) (oi := ⟨some 47, Op.build 24 #[(0, Operand.tmp 40), (1, Operand.tmp 42), (2, Operand.tmp 46)], 24, _, _, none⟩) (v := ?vab98) rfl (by kernel_rfl) (by kernel_rfl) (by kernel_rfl) (fun _ _ _ h => h) (Or.inl ⟨by rfl, ?hab98⟩) hS5 ?rab98
            case hab98 => (intro wz hSw; go_simp <;> with_reducible rfl)
            (try simp only [Act.put, List.setIfInBounds_toArray, List.set_cons_zero, List.set_cons_succ])
            refine wpAnyH_ready (rs := [10]) (by kernel_rfl) (by simp) ?_
            refine AllReadyH.cons (o := ⟨none, Op.store 24 (Operand.tmp 11) (Operand.tmp 47), 0, _, _, none⟩) rfl (fun K hK => ?_) AllReadyH.nil
            obtain ⟨⟨x0, x1, x2⟩, f0, f1, f2⟩ := hZ5.cells
            go_simp
            have hS6 := below3 hS5 hge4 gw gh r5 n n; have hX := hZ5.put gw gh r5 n n; have hRf := hR5.far3 (fun e => hne e.symm) gw gh r5 n n
            refine hK.out _ _ hS6 (fun _ => ?_)
            clear hK K
            (try simp only [Act.put, List.setIfInBounds_toArray, List.set_cons_zero, List.set_cons_succ])
            refine wpAnyH_done (by kernel_rfl) ?_ _
            refine NoPanic.normal ?_
            exact ⟨r5, P4, rfl, hRf, hX, hS6, hne, ⟨hge5, hge4⟩, rfl⟩
        case post5 =>
          rintro e a' w5 ⟨r, P, rfl, hRow, hX, hB5, hPr, ⟨hrg, hPg⟩, rfl⟩
          dsimp only
          clear hmk
          go_wp2
          have HB5W := Lib.hid (HB4.out.trans (hB5.mono HB4.out.size))
          have HG5 := Lib.hid (HG4.out.of hB5)
          obtain ⟨i0, hi0, hz0, hz1, hz2⟩ := info_parts info4
          refine Code.wp_mono (Q := fun e a' w' => ∃ e0 g cap P2, e = .normal ∧ Row w' g l ∧ GBox w' P2 gw gh g n cap ∧ Below w5.heap.size w5 w' ∧ P2 ≠ g ∧ (w5.heap.size ≤ g ∧ w5.heap.size ≤ P2) ∧ a' = ({ tmps := #[gv gw gh (some ⟨b0, off0, none⟩) n c, pv ax ay, pv bx by', .int .i64 k, pf W.heap.size 0, pf (W.heap.size + 1) 0, pf (W.heap.size + 1 + 1) 0, undef, .bool false, .bool true, .bool true, pf P 0, pf P2 0, undef, undef, .bool true, gv gw gh (some ⟨b0, off0, none⟩) n c, .bool true, .bool true, .bool false, .bool false, gv gw gh (some ⟨b0, off0, none⟩) n c, pv ax ay, .bool true, .bool false, .bool false, .bool false, gv gw gh (some ⟨b0, off0, none⟩) n c, pv bx by', .bool true, .bool false, .bool false, .bool false, pf W.heap.size 2, .slice (some ⟨b0, off0, none⟩) n c, .int .i64 (n : Int), .bool false, .bool false, undef, pf W.heap.size 0, .int .i64 gw, pf W.heap.size 1, .int .i64 gh, pf W.heap.size 2, .slice (some ⟨b0, off0, none⟩) n c, .int .i64 (n : Int), .slice (some ⟨r, 0, none⟩) n n, gv gw gh (some ⟨r, 0, none⟩) n n, pf W.heap.size 0, .int .i64 gw, pf W.heap.size 1, .int .i64 gh, .slice (some ⟨e0, 0, none⟩) 0 0, pf W.heap.size 2, .slice (some ⟨b0, off0, none⟩) n c, .slice (some ⟨g, 0, none⟩) n cap, gv gw gh (some ⟨g, 0, none⟩) n cap, undef, undef, undef, undef, undef, undef, undef, undef, undef, undef, undef, undef, undef, undef, undef, undef, undef, undef, undef, undef, undef, undef, undef, undef, undef, undef, undef, undef, undef, undef, undef, undef, undef, undef, undef, undef, undef, undef, undef, undef, undef, undef, undef, undef, undef, undef, undef, undef, undef, undef, undef, undef, undef, undef, undef, undef, undef, undef, undef, undef, undef, undef, undef, undef, undef, undef, undef, undef, undef, undef, undef, undef, undef, undef, undef, undef, undef], defers := [] } : Act)) ?post6 ?reg6
          case reg6 =>
            have hS0 : Below w5.heap.size w5 w5.drew := (Below.refl _ _).drew
            refine wp_region_noPanic ?_
            refine wp_region_held_drew (S := fun w' => Below w5.heap.size w5 w') (by kernel_rfl) hS0 (fun _ => ?_)
            generalize w5.drew = v0 at hS0 ⊢
            refine wpAnyH_take (i := 0) (oi := ⟨some 48, Op.fieldAddr 24 (Operand.tmp 4) 0, 0, _, _, none⟩) (v := ?vb0) rfl (by kernel_rfl) (by kernel_rfl) (by kernel_rfl) (fun _ _ _ h => h) (Or.inl ⟨by rfl, ?hb0⟩) hS0 ?rb0
            case hb0 => (intro wz hSw; go_simp <;> with_reducible rfl)
            (try simp only [Act.put, List.setIfInBounds_toArray, List.set_cons_zero, List.set_cons_succ])
            refine wpAnyH_take (i := 1) (oi := ⟨some 49, Op.load 3 (Operand.tmp 48), 3, _, _, none⟩) (v := ?vb1) rfl (by kernel_rfl) (by kernel_rfl) (by kernel_rfl) (fun _ _ _ h => h) (Or.inl ⟨by rfl, ?hb1⟩) hS0 ?rb1
            case hb1 => (intro wz hSw; obtain ⟨k0, k1, k2, k3, k4, k5, k6⟩ := (HG5.out.of hSw).cells; go_simp <;> with_reducible rfl)
            (try simp only [Act.put, List.setIfInBounds_toArray, List.set_cons_zero, List.set_cons_succ])
            refine wpAnyH_take (i := 2) (oi := ⟨some 50, Op.fieldAddr 24 (Operand.tmp 4) 1, 0, _, _, none⟩) (v := ?vb2) rfl (by kernel_rfl) (by kernel_rfl) (by kernel_rfl) (fun _ _ _ h => h) (Or.inl ⟨by rfl, ?hb2⟩) hS0 ?rb2
            case hb2 => (intro wz hSw; go_simp <;> with_reducible rfl)
            (try simp only [Act.put, List.setIfInBounds_toArray, List.set_cons_zero, List.set_cons_succ])
            refine wpAnyH_take (i := 3) (oi := ⟨some 51, Op.load 3 (Operand.tmp 50), 3, _, _, none⟩) (v := ?vb3) rfl (by kernel_rfl) (by kernel_rfl) (by kernel_rfl) (fun _ _ _ h => h) (Or.inl ⟨by rfl, ?hb3⟩) hS0 ?rb3
            case hb3 => (intro wz hSw; obtain ⟨k0, k1, k2, k3, k4, k5, k6⟩ := (HG5.out.of hSw).cells; go_simp <;> with_reducible rfl)
            (try simp only [Act.put, List.setIfInBounds_toArray, List.set_cons_zero, List.set_cons_succ])
            refine wpAnyH_take (i := 5) (oi := ⟨some 53, Op.fieldAddr 24 (Operand.tmp 4) 2, 0, _, _, none⟩) (v := ?vb5) rfl (by kernel_rfl) (by kernel_rfl) (by kernel_rfl) (fun _ _ _ h => h) (Or.inl ⟨by rfl, ?hb5⟩) hS0 ?rb5
            case hb5 => (intro wz hSw; go_simp <;> with_reducible rfl)
            (try simp only [Act.put, List.setIfInBounds_toArray, List.set_cons_zero, List.set_cons_succ])
            refine wpAnyH_take (i := 6) (oi := ⟨some 54, Op.load 22 (Operand.tmp 53), 22, _, _, none⟩) (v := ?vb6) rfl (by kernel_rfl) (by kernel_rfl) (by kernel_rfl) (fun _ _ _ h => h) (Or.inl ⟨by rfl, ?hb6⟩) hS0 ?rb6
            case hb6 => (intro wz hSw; obtain ⟨k0, k1, k2, k3, k4, k5, k6⟩ := (HG5.out.of hSw).cells; go_simp <;> with_reducible rfl)
            (try simp only [Act.put, List.setIfInBounds_toArray, List.set_cons_zero, List.set_cons_succ])
            refine wpAnyH_ready (rs := [4, 9]) (by kernel_rfl) (by simp) ?_
            refine AllReadyH.cons (o := ⟨some 52, Op.buildSlice 22 0 #[], 22, _, _, none⟩) rfl (fun K hK => ?_) (AllReadyH.cons (o := ⟨some 12, Op.alloc 24, 0, _, _, none⟩) rfl (fun K hK => ?_) AllReadyH.nil)
            · go_simp
              have hE7 := row_base (own0 v0) hS0.size; have hEl7 : v0.heap.size < (v0.alloc (.cells #[] 4)).heap.size := (by simp); have hA7 : Below v0.heap.size v0 (v0.alloc (.cells #[] 4)) := (Below.refl _ _).alloc (Nat.le_refl _) _; have hS7 := hS0.trans (hA7.mono hS0.size); have hee : w5.heap.size ≤ v0.heap.size := hS0.size; clear hA7; generalize hP7 : v0.heap.size = e7 at hE7 hEl7 hee ⊢; generalize hV7 : v0.alloc _ = v7 at hE7 hEl7 hS7 ⊢; clear hP7 hV7
              refine hK.out _ _ hS7 (fun _ => ?_)
              clear hK K
              (try simp only [Act.put, List.setIfInBounds_toArray, List.set_cons_zero, List.set_cons_succ])
              refine wpAnyH_ready (rs := [7, 9]) (by kernel_rfl) (by simp) ?_
              refine AllReadyH.cons (o := ⟨some 55, Op.call { callee := Callee.builtin Builtin.append, args := #[Operand.tmp 52, Operand.tmp 54], argTypes := #[22, 22] }, 22, _, _, none⟩) rfl (fun K hK => ?_) (AllReadyH.cons (o := ⟨some 12, Op.alloc 24, 0, _, _, none⟩) rfl (fun K hK => ?_) AllReadyH.nil)
              · refine step_append_lies _ rfl (.tmp 52) (.tmp 54) 22 rfl w5.heap.size 4 i0 (.bool false) 1 1 Try.underlying22 hi0 hz0 hz1 hz2 rfl (by omega) (.slice (some ⟨e7, 0, none⟩) 0 0) 0 [] (by simp [Act.eval]) hE7 ⟨b0, off0, none⟩ n c (l.map Value.bool) (by simp [Act.eval]) (by rw [List.length_map, HN.out]; omega) (HNW.out _ (HB5W.out.trans (hS7.mono HB5W.out.size))) (one_cell l) (by omega) (by unfold maxLen; omega) (by omega) hS7.size _ rfl ?_
                intro g cap v8 hown hgrow hat hglt; simp only [Nat.zero_add, List.nil_append] at hown ⊢; have hS8 := hS7.grown hgrow hS7.size (fun r e => by cases e; exact hee); have hM8 := row_own HN.out hown (by omega); have hat2 : g = e7 ∨ g = v7.heap.size := at_new hat; have hgge : w5.heap.size ≤ g := (by have := hS7.size; omega); clear hat hat2 hown hgrow
                refine hK.out _ _ hS8 (fun _ => ?_)
                clear hK K
                (try simp only [Act.put, List.setIfInBounds_toArray, List.set_cons_zero, List.set_cons_succ])
                refine wpAnyH_take (i := 8) (oi := ⟨some 56, Op.build 24 #[(0, Operand.tmp 49), (1, Operand.tmp 51), (2, Operand.tmp 55)], 24, _, _, none⟩) (v := ?vbb4b78) rfl (by kernel_rfl) (by kernel_rfl) (by kernel_rfl) (fun _ _ _ h => h) (Or.inl ⟨by rfl, ?hbb4b78⟩) hS8 ?rbb4b78
                case hbb4b78 => (intro wz hSw; go_simp <;> with_reducible rfl)
                (try simp only [Act.put, List.setIfInBounds_toArray, List.set_cons_zero, List.set_cons_succ])
                refine wpAnyH_ready (rs := [9]) (by kernel_rfl) (by simp) ?_
                refine AllReadyH.cons (o := ⟨some 12, Op.alloc 24, 0, _, _, none⟩) rfl (fun K hK => ?_) AllReadyH.nil
                go_simp
                have hZ9 := ZBox.new v8; have hA9 : Below v8.heap.size v8 (v8.alloc (.cells #[.int .i64 0, .int .i64 0, .slice none 0 0] 24)) := (Below.refl _ _).alloc (Nat.le_refl _) _; have hS9 := hS8.trans (hA9.mono hS8.size); have hne : v8.heap.size ≠ g := Nat.ne_of_gt hM8.lt; have hR9 := hM8.of hA9; have hge9 : w5.heap.size ≤ v8.heap.size := hS8.size; clear hA9; generalize hP9 : v8.heap.size = P9 at hZ9 hge9 hne ⊢; generalize hV9 : v8.alloc _ = v9 at hZ9 hS9 hR9 ⊢; clear hP9 hV9
                refine hK.out _ _ hS9 (fun _ => ?_)
                clear hK K
                (try simp only [Act.put, List.setIfInBounds_toArray, List.set_cons_zero, List.set_cons_succ])
                refine wpAnyH_ready (rs := [10]) (by kernel_rfl) (by simp) ?_
                refine AllReadyH.cons (o := ⟨none, Op.store 24 (Operand.tmp 12) (Operand.tmp 56), 0, _, _, none⟩) rfl (fun K hK => ?_) AllReadyH.nil
                obtain ⟨⟨x0, x1, x2⟩, f0, f1, f2⟩ := hZ9.cells
                go_simp
                have hS10 := below3 hS9 hge9 gw gh g n cap; have hX := hZ9.put gw gh g n cap; have hRf := hR9.far3 (fun e => hne e.symm) gw gh g n cap
                refine hK.out _ _ hS10 (fun _ => ?_)
                clear hK K
                (try simp only [Act.put, List.setIfInBounds_toArray, List.set_cons_zero, List.set_cons_succ])
                refine wpAnyH_done (by kernel_rfl) ?_ _
                refine NoPanic.normal ?_
                exact ⟨_, _, _, _, rfl, hRf, hX, hS10, hne, ⟨hgge, hge9⟩, rfl⟩
              · go_simp
                have hZ11 := ZBox.new v7; have hA11 : Below v7.heap.size v7 (v7.alloc (.cells #[.int .i64 0, .int .i64 0, .slice none 0 0] 24)) := (Below.refl _ _).alloc (Nat.le_refl _) _; have hS11 := hS7.trans (hA11.mono hS7.size); have hne0 : v7.heap.size ≠ e7 := Nat.ne_of_gt hEl7; have hE11 := ownsRow_below hE7 hA11; have hEl11 := Nat.lt_of_lt_of_le hEl7 hA11.size; have hge11 : w5.heap.size ≤ v7.heap.size := hS7.size; clear hA11; generalize hP11 : v7.heap.size = P11 at hZ11 hge11 hne0 ⊢; generalize hV11 : v7.alloc _ = v11 at hZ11 hS11 hE11 hEl11 ⊢; clear hP11 hV11
                refine hK.out _ _ hS11 (fun _ => ?_)
                clear hK K
                (try simp only [Act.put, List.setIfInBounds_toArray, List.set_cons_zero, List.set_cons_succ])
                refine wpAnyH_ready (rs := [7]) (by kernel_rfl) (by simp) ?_
                refine AllReadyH.cons (o := ⟨some 55, Op.call { callee := Callee.builtin Builtin.append, args := #[Operand.tmp 52, Operand.tmp 54], argTypes := #[22, 22] }, 22, _, _, none⟩) rfl (fun K hK => ?_) AllReadyH.nil
                refine step_append_lies _ rfl (.tmp 52) (.tmp 54) 22 rfl w5.heap.size 4 i0 (.bool false) 1 1 Try.underlying22 hi0 hz0 hz1 hz2 rfl (by omega) (.slice (some ⟨e7, 0, none⟩) 0 0) 0 [] (by simp [Act.eval]) hE11 ⟨b0, off0, none⟩ n c (l.map Value.bool) (by simp [Act.eval]) (by rw [List.length_map, HN.out]; omega) (HNW.out _ (HB5W.out.trans (hS11.mono HB5W.out.size))) (one_cell l) (by omega) (by unfold maxLen; omega) (by omega) hS11.size _ rfl ?_
                intro g cap v12 hown hgrow hat hglt; simp only [Nat.zero_add, List.nil_append] at hown ⊢; have hS12 := hS11.grown hgrow hS11.size (fun r e => by cases e; exact hee); have hM12 := row_own HN.out hown (by omega); have hat2 : g = e7 ∨ g = v11.heap.size := at_new hat; have hgge : w5.heap.size ≤ g := (by have := hS11.size; omega); have hZ12 := hZ11.grown hgrow (fun e => by injection e with e; exact hne0 e.symm); have hne : P11 ≠ g := (by have := hZ11.lt; omega); clear hat hat2 hown hgrow
                refine hK.out _ _ hS12 (fun _ => ?_)
                clear hK K
                (try simp only [Act.put, List.setIfInBounds_toArray, List.set_cons_zero, List.set_cons_succ])
                refine wpAnyH_take (i := 8) (oi := ⟨some 56, Op.build 24 #[(0, Operand.tmp 49), (1, Operand.tmp 51), (2, Operand.tmp 55)], 24, _, _, none⟩) (v := ?vbb4b98) rfl (by kernel_rfl) (by kernel_rfl) (by kernel_rfl) (fun _ _ _ h => h) (Or.inl ⟨by rfl, ?hbb4b98⟩) hS12 ?rbb4b98
                case hbb4b98 => (intro wz hSw; go_simp <;> with_reducible rfl)
                (try simp only [Act.put, List.setIfInBounds_toArray, List.set_cons_zero, List.set_cons_succ])
                refine wpAnyH_ready (rs := [10]) (by kernel_rfl) (by simp) ?_
                refine AllReadyH.cons (o := ⟨none, Op.store 24 (Operand.tmp 12) (Operand.tmp 56), 0, _, _, none⟩) rfl (fun K hK => ?_) AllReadyH.nil
                obtain ⟨⟨x0, x1, x2⟩, f0, f1, f2⟩ := hZ12.cells
                go_simp
                have hS13 := below3 hS12 hge11 gw gh g n cap; have hX := hZ12.put gw gh g n cap; have hRf := hM12.far3 (fun e => hne e.symm) gw gh g n cap
                refine hK.out _ _ hS13 (fun _ => ?_)
                clear hK K
                (try simp only [Act.put, List.setIfInBounds_toArray, List.set_cons_zero, List.set_cons_succ])
                refine wpAnyH_done (by kernel_rfl) ?_ _
                refine NoPanic.normal ?_
                exact ⟨_, _, _, _, rfl, hRf, hX, hS13, hne, ⟨hgge, hge11⟩, rfl⟩
            · go_simp
              have hZ14 := ZBox.new v0; have hA14 : Below v0.heap.size v0 (v0.alloc (.cells #[.int .i64 0, .int .i64 0, .slice none 0 0] 24)) := (Below.refl _ _).alloc (Nat.le_refl _) _; have hS14 := hS0.trans (hA14.mono hS0.size); have hge14 : w5.heap.size ≤ v0.heap.size := hS0.size; clear hA14; generalize hP14 : v0.heap.size = P14 at hZ14 hge14 ⊢; generalize hV14 : v0.alloc _ = v14 at hZ14 hS14 ⊢; clear hP14 hV14
              refine hK.out _ _ hS14 (fun _ => ?_)
              clear hK K
              (try simp only [Act.put, List.setIfInBounds_toArray, List.set_cons_zero, List.set_cons_succ])
              refine wpAnyH_ready (rs := [4]) (by kernel_rfl) (by simp) ?_
              refine AllReadyH.cons (o := ⟨some 52, Op.buildSlice 22 0 #[], 22, _, _, none⟩) rfl (fun K hK => ?_) AllReadyH.nil
              go_simp
              have hE15 := row_base (own0 v14) hS14.size; have hEl15 : v14.heap.size < (v14.alloc (.cells #[] 4)).heap.size := (by simp); have hA15 : Below v14.heap.size v14 (v14.alloc (.cells #[] 4)) := (Below.refl _ _).alloc (Nat.le_refl _) _; have hS15 := hS14.trans (hA15.mono hS14.size); have hne0 : P14 ≠ v14.heap.size := Nat.ne_of_lt hZ14.lt; have hZ15 := hZ14.of hA15; have hee : w5.heap.size ≤ v14.heap.size := hS14.size; clear hA15; generalize hP15 : v14.heap.size = e15 at hE15 hEl15 hee hne0 ⊢; generalize hV15 : v14.alloc _ = v15 at hE15 hEl15 hS15 hZ15 ⊢; clear hP15 hV15
              refine hK.out _ _ hS15 (fun _ => ?_)
              clear hK K
              (try simp only [Act.put, List.setIfInBounds_toArray, List.set_cons_zero, List.set_cons_succ])
              refine wpAnyH_ready (rs := [7]) (by kernel_rfl) (by simp) ?_
              refine AllReadyH.cons (o := ⟨some 55, Op.call { callee := Callee.builtin Builtin.append, args := #[Operand.tmp 52, Operand.tmp 54], argTypes := #[22, 22] }, 22, _, _, none⟩) rfl (fun K hK => ?_) AllReadyH.nil
              refine step_append_lies _ rfl (.tmp 52) (.tmp 54) 22 rfl w5.heap.size 4 i0 (.bool false) 1 1 Try.underlying22 hi0 hz0 hz1 hz2 rfl (by omega) (.slice (some ⟨e15, 0, none⟩) 0 0) 0 [] (by simp [Act.eval]) hE15 ⟨b0, off0, none⟩ n c (l.map Value.bool) (by simp [Act.eval]) (by rw [List.length_map, HN.out]; omega) (HNW.out _ (HB5W.out.trans (hS15.mono HB5W.out.size))) (one_cell l) (by omega) (by unfold maxLen; omega) (by omega) hS15.size _ rfl ?_
              intro g cap v16 hown hgrow hat hglt; simp only [Nat.zero_add, List.nil_append] at hown ⊢; have hS16 := hS15.grown hgrow hS15.size (fun r e => by cases e; exact hee); have hM16 := row_own HN.out hown (by omega); have hat2 : g = e15 ∨ g = v15.heap.size := at_new hat; have hgge : w5.heap.size ≤ g := (by have := hS15.size; omega); have hZ16 := hZ15.grown hgrow (fun e => by injection e with e; exact hne0 e.symm); have hne : P14 ≠ g := (by have := hZ15.lt; omega); clear hat hat2 hown hgrow
              refine hK.out _ _ hS16 (fun _ => ?_)
              clear hK K
              (try simp only [Act.put, List.setIfInBounds_toArray, List.set_cons_zero, List.set_cons_succ])
              refine wpAnyH_take (i := 8) (oi := ⟨some 56, Op.build 24 #[(0, Operand.tmp 49), (1, Operand.tmp 51), (2, Operand.tmp 55)], 24, _, _, none⟩) (v := ?vbb98) rfl (by kernel_rfl) (by kernel_rfl) (by kernel_rfl) (fun _ _ _ h => h) (Or.inl ⟨by rfl, ?hbb98⟩) hS16 ?rbb98
              case hbb98 => (intro wz hSw; go_simp <;> with_reducible rfl)
              (try simp only [Act.put, List.setIfInBounds_toArray, List.set_cons_zero, List.set_cons_succ])
              refine wpAnyH_ready (rs := [10]) (by kernel_rfl) (by simp) ?_
              refine AllReadyH.cons (o := ⟨none, Op.store 24 (Operand.tmp 12) (Operand.tmp 56), 0, _, _, none⟩) rfl (fun K hK => ?_) AllReadyH.nil
              obtain ⟨⟨x0, x1, x2⟩, f0, f1, f2⟩ := hZ16.cells
              go_simp
              have hS17 := below3 hS16 hge14 gw gh g n cap; have hX := hZ16.put gw gh g n cap; have hRf := hM16.far3 (fun e => hne e.symm) gw gh g n cap
              refine hK.out _ _ hS17 (fun _ => ?_)
              clear hK K
              (try simp only [Act.put, List.setIfInBounds_toArray, List.set_cons_zero, List.set_cons_succ])
              refine wpAnyH_done (by kernel_rfl) ?_ _
              refine NoPanic.normal ?_
              exact ⟨_, _, _, _, rfl, hRf, hX, hS17, hne, ⟨hgge, hge14⟩, rfl⟩
          case post6 =>
            rintro e a' w6 ⟨e0, g, cap, P2, rfl, hM, hY, hB6, hPg2, ⟨hgg, hPg3⟩, rfl⟩
            dsimp only
            go_wp2
            obtain ⟨m, j, hm, hm0, hm1, hj, hjn⟩ := pick_at k hn1
            have hj1 : (j : Int) < n := by omega
            have hnz : ¬ n = 0 := by omega
            have hjl : j < l.length := by have := HN.out; omega
            have hS0 : SK w5 w6 P2 gw gh g n cap w6.drew := ⟨hB6.drew, hY⟩
            refine wp_region_noPanic ?_
            refine wp_region_held_drew (S := fun w' => SK w5 w6 P2 gw gh g n cap w') (by kernel_rfl) hS0 (fun _ => ?_)
            refine wpAnyH_take (i := 0) (oi := ⟨some 57, Op.fieldAddr 24 (Operand.tmp 12) 2, 0, _, _, none⟩) (v := ?vc0) rfl (by kernel_rfl) (by kernel_rfl) (by kernel_rfl) (fun _ _ _ h => h) (Or.inl ⟨by rfl, ?hc0⟩) hS0 ?rc0
            case hc0 => (intro wz hSw; go_simp <;> with_reducible rfl)
            (try simp only [Act.put, List.setIfInBounds_toArray, List.set_cons_zero, List.set_cons_succ])
            refine wpAnyH_take (i := 1) (oi := ⟨some 58, Op.load 22 (Operand.tmp 57), 22, _, _, none⟩) (v := ?vc1) rfl (by kernel_rfl) (by kernel_rfl) (by kernel_rfl) (fun _ _ _ h => h) (Or.inl ⟨by rfl, ?hc1⟩) hS0 ?rc1
            case hc1 => (intro wz hSw; obtain ⟨m0, m1, m2⟩ := hSw.2.cells; go_simp <;> with_reducible rfl)
            (try simp only [Act.put, List.setIfInBounds_toArray, List.set_cons_zero, List.set_cons_succ])
            refine wpAnyH_take (i := 2) (oi := ⟨some 59, Op.move (Operand.tmp 3), 3, _, _, none⟩) (v := ?vc2) rfl (by kernel_rfl) (by kernel_rfl) (by kernel_rfl) (fun _ _ _ h => h) (Or.inl ⟨by rfl, ?hc2⟩) hS0 ?rc2
            case hc2 => (intro wz hSw; go_simp <;> with_reducible rfl)
            (try simp only [Act.put, List.setIfInBounds_toArray, List.set_cons_zero, List.set_cons_succ])
            refine wpAnyH_take (i := 3) (oi := ⟨some 60, Op.binOp BinOp.and 3 (Operand.tmp 59) (Operand.const (Value.int IntKind.i64 4095)) 3, 3, _, _, none⟩) (v := ?vc3) rfl (by kernel_rfl) (by kernel_rfl) (by kernel_rfl) (fun _ _ _ h => h) (Or.inl ⟨by rfl, ?hc3⟩) hS0 ?rc3
            case hc3 => (intro wz hSw; go_simp <;> with_reducible rfl)
            (try simp only [Act.put, List.setIfInBounds_toArray, List.set_cons_zero, List.set_cons_succ])
            refine wpAnyH_take (i := 4) (oi := ⟨some 61, Op.fieldAddr 24 (Operand.tmp 12) 2, 0, _, _, none⟩) (v := ?vc4) rfl (by kernel_rfl) (by kernel_rfl) (by kernel_rfl) (fun _ _ _ h => h) (Or.inl ⟨by rfl, ?hc4⟩) hS0 ?rc4
            case hc4 => (intro wz hSw; go_simp <;> with_reducible rfl)
            (try simp only [Act.put, List.setIfInBounds_toArray, List.set_cons_zero, List.set_cons_succ])
            refine wpAnyH_take (i := 5) (oi := ⟨some 62, Op.load 22 (Operand.tmp 61), 22, _, _, none⟩) (v := ?vc5) rfl (by kernel_rfl) (by kernel_rfl) (by kernel_rfl) (fun _ _ _ h => h) (Or.inl ⟨by rfl, ?hc5⟩) hS0 ?rc5
            case hc5 => (intro wz hSw; obtain ⟨m0, m1, m2⟩ := hSw.2.cells; go_simp <;> with_reducible rfl)
            (try simp only [Act.put, List.setIfInBounds_toArray, List.set_cons_zero, List.set_cons_succ])
            refine wpAnyH_take (i := 6) (oi := ⟨some 63, Op.call { callee := Callee.builtin Builtin.len, args := #[Operand.tmp 62], argTypes := #[22] }, 3, _, _, none⟩) (v := ?vc6) rfl (by kernel_rfl) (by kernel_rfl) (by kernel_rfl) (fun _ _ _ h => h) (Or.inl ⟨by rfl, ?hc6⟩) hS0 ?rc6
            case hc6 => (intro wz hSw; go_simp <;> with_reducible rfl)
            (try simp only [Act.put, List.setIfInBounds_toArray, List.set_cons_zero, List.set_cons_succ])
            refine wpAnyH_take (i := 7) (oi := ⟨some 64, Op.binOp BinOp.rem 3 (Operand.tmp 60) (Operand.tmp 63) 3, 3, _, _, none⟩) (v := ?vc7) rfl (by kernel_rfl) (by kernel_rfl) (by kernel_rfl) (fun _ _ _ h => h) (Or.inl ⟨by rfl, ?hc7⟩) hS0 ?rc7
            case hc7 => (intro wz hSw; go_simp <;> with_reducible rfl)
            (try simp only [Act.put, List.setIfInBounds_toArray, List.set_cons_zero, List.set_cons_succ])
            refine wpAnyH_take (i := 8) (oi := ⟨some 65, Op.indexAddr 22 (Operand.tmp 58) (Operand.tmp 64), 0, _, _, none⟩) (v := ?vc8) rfl (by kernel_rfl) (by kernel_rfl) (by kernel_rfl) (fun _ _ _ h => h) (Or.inl ⟨by rfl, ?hc8⟩) hS0 ?rc8
            case hc8 => (intro wz hSw; go_simp <;> with_reducible rfl)
            (try simp only [Act.put, List.setIfInBounds_toArray, List.set_cons_zero, List.set_cons_succ])
            refine wpAnyH_ready (rs := [9]) (by kernel_rfl) (by simp) ?_
            refine AllReadyH.cons (o := ⟨none, Op.store 4 (Operand.tmp 65) (Operand.const (Value.bool true)), 0, _, _, none⟩) rfl (fun K hK => ?_) AllReadyH.nil
            obtain ⟨y0, y1⟩ := hM.cell hjl
            go_simp
            have hS18 := hS0.put (j := j) hgg hPg2
            refine hK.out _ _ hS18 (fun _ => ?_)
            clear hK K
            (try simp only [Act.put, List.setIfInBounds_toArray, List.set_cons_zero, List.set_cons_succ])
            refine wpAnyH_done (by kernel_rfl) ?_ _
            refine NoPanic.normal ?_
            have hB7 := hS18
            have hrg2 : r ≠ g := by have := hRow.lt; omega
            have hPg4 : P ≠ g := by have := hX.lt; omega
            have hM2 : Row (w6.setCell ⟨g, j, none⟩ (.bool true)).drew g (l.set j true) := hM.put j hjl
            have hRow2 : Row (w6.setCell ⟨g, j, none⟩ (.bool true)).drew r (List.replicate n false) := (hRow.of hB6).far ⟨g, j, none⟩ (.bool true) hrg2
            have hX2 : GBox (w6.setCell ⟨g, j, none⟩ (.bool true)).drew P gw gh r n n := GBox.far (hX.of hB6) ⟨g, j, none⟩ (.bool true) hPg4
            have hY2 : GBox (w6.setCell ⟨g, j, none⟩ (.bool true)).drew P2 gw gh g n cap := hB7.2
            have hB7W : Below W.heap.size W (w6.setCell ⟨g, j, none⟩ (.bool true)).drew := HB5W.out.trans (hB7.1.mono HB5W.out.size)
            have hG7 : G3 gw gh (some ⟨b0, off0, none⟩) n c ax ay bx by' W.heap.size (w6.setCell ⟨g, j, none⟩ (.bool true)).drew := HG5.out.of hB7.1
            clear hB7 hY hX hRow hM hB6 hS0
            generalize (w6.setCell ⟨g, j, none⟩ (.bool true)).drew = w7 at hM2 hRow2 hX2 hY2 hB7W hG7 ⊢
            have hboth : bothB gw gh l.length ax ay bx by' = true := by rw [HN.out]; unfold bothB; rw [ea, eb]; rfl
            obtain ⟨px, py, is, hfi, hsg, hfa⟩ := first_facts (c := c) HRW.out hboth
            have hfa1 := Lib.hid hfa
            rw [HN.out] at hfi
            have HFI := Lib.hid hfi
            have hSM : seesB gw gh (l.set j true) ax ay bx by' = true → is = false := fun h => by
              have := sees_more (l := l) (m := l.set j true) (by simp) (fun i => set_more l j i) h
              rw [hsg] at this
              cases is
              · rfl
              · cases this
            generalize hsM : seesB gw gh (l.set j true) ax ay bx by' = sM at hSM
            have HSM0 := Lib.hid hSM
            have HSMv := Lib.hid hsM
            have HSGv := Lib.hid hsg
            have HM2 := Lib.hid hM2; have HRow2 := Lib.hid hRow2; have HX2 := Lib.hid hX2; have HY2 := Lib.hid hY2; have HB7W := Lib.hid hB7W; have HG7 := Lib.hid hG7
            have HBo := Lib.hid hboth
            obtain ⟨c0, c1, c2, c3, c4, c5, c6⟩ := HG7.out.cells
            clear hfi hfa hsg hSM hsM hM2 hRow2 hX2 hY2 hB7W hG7 hboth hm hj
            go_wp2_with (first
              | ((with_reducible refine (HFI.out _ HB7W.out).mono ?_); rintro e w8 ⟨rfl, hB8⟩))
            have hZ0 : BoxP (w8.alloc (.cells #[.int .i64 px, .int .i64 py] 26)) w8.heap.size px py := new_at _ _ rfl
            have hA8 : Below w7.heap.size w7 (w8.alloc (.cells #[.int .i64 px, .int .i64 py] 26)) := hB8.alloc hB8.size _
            generalize w8.heap.size = P3 at hZ0 ⊢
            generalize w8.alloc (.cells #[.int .i64 px, .int .i64 py] 26) = w9 at hZ0 hA8 ⊢
            have HG9 := Lib.hid (HG7.out.of hA8)
            have HX9 := Lib.hid (HX2.out.of hA8)
            have HY9 := Lib.hid (HY2.out.of hA8)
            have HZ9 := Lib.hid hZ0
            have HB9W := Lib.hid (HB7W.out.trans (hA8.mono HB7W.out.size))
            have hM9 := HM2.out.of hA8
            have hR9 := HRow2.out.of hA8
            have HSO : Hid (∀ V : World, Below w9.heap.size w9 V → Calls Try.prog 14 #[gv gw gh (some ⟨r, 0, none⟩) n n, pv ax ay, pv bx by'] V fun e w' => e = .returned (.bool true) ∧ Below V.heap.size V w') := Lib.hid (fun V h => by
              have := Sees_any gw gh (some ⟨r, 0, none⟩) (List.replicate n false) n ax ay bx by' V (hR9.of h).rb
              rwa [List.length_replicate, sees_open (by rw [List.length_replicate, ← HN.out]; exact HBo.out) (none_set n)] at this)
            have HSM : Hid (∀ V : World, Below w9.heap.size w9 V → Calls Try.prog 14 #[gv gw gh (some ⟨g, 0, none⟩) n cap, pv ax ay, pv bx by'] V fun e w' => e = .returned (.bool sM) ∧ Below V.heap.size V w') := Lib.hid (fun V h => by
              have := Sees_any gw gh (some ⟨g, 0, none⟩) (l.set j true) cap ax ay bx by' V (hM9.of h).rb
              rwa [List.length_set, HSMv.out, HN.out] at this)
            have HSG : Hid (∀ V : World, Below w9.heap.size w9 V → Calls Try.prog 14 #[gv gw gh (some ⟨b0, off0, none⟩) n c, pv ax ay, pv bx by'] V fun e w' => e = .returned (.bool (!is)) ∧ Below V.heap.size V w') := Lib.hid (fun V h => by
              have := Sees_any gw gh (some ⟨b0, off0, none⟩) l c ax ay bx by' V (rb_at HRW.out (HB9W.out.trans (h.mono HB9W.out.size)))
              rwa [HSGv.out, HN.out] at this)
            have HSA : Hid (∀ V : World, Below w9.heap.size w9 V → Calls Try.prog 14 #[gv gw gh (some ⟨b0, off0, none⟩) n c, pv ax ay, pv ax ay] V fun e w' => e = .returned (.bool true) ∧ Below V.heap.size V w') := Lib.hid (fun V h => by
              have := Sees_any gw gh (some ⟨b0, off0, none⟩) l c ax ay ax ay V (rb_at HRW.out (HB9W.out.trans (h.mono HB9W.out.size)))
              rwa [sees_self (by rw [HN.out]; exact ea), HN.out] at this)
            clear hM9 hR9 hA8 hZ0 hB8 HM2 HRow2 HX2 HY2 HG7 HFI HSMv HSGv
            have hS0 : Below w9.heap.size w9 w9.drew := (Below.refl _ _).drew
            cases is with
            | false =>
              have HSG' : Hid (∀ V : World, Below w9.heap.size w9 V → Calls Try.prog 14 #[gv gw gh (some ⟨b0, off0, none⟩) n c, pv ax ay, pv bx by'] V fun e w' => e = .returned (.bool true) ∧ Below V.heap.size V w') := HSG
              clear HSG
              cases sM with
              | false =>
                refine wp_region_noPanic ?_
                refine wp_region_held_drew (S := fun w' => Below w9.heap.size w9 w') (by kernel_rfl) hS0 (fun _ => ?_)
                refine wpAnyH_take (i := 0) (oi := ⟨some 73, Op.move (Operand.tmp 9), 4, _, _, none⟩) (v := ?vd0) rfl (by kernel_rfl) (by kernel_rfl) (by kernel_rfl) (fun _ _ _ h => h) (Or.inl ⟨by rfl, ?hd0⟩) hS0 ?rd0
                case hd0 => (intro wz hSw; go_simp <;> with_reducible rfl)
                (try simp only [Act.put, List.setIfInBounds_toArray, List.set_cons_zero, List.set_cons_succ])
                refine wpAnyH_take (i := 1) (oi := ⟨some 74, Op.move (Operand.tmp 73), 4, _, _, none⟩) (v := ?vd1) rfl (by kernel_rfl) (by kernel_rfl) (by kernel_rfl) (fun _ _ _ h => h) (Or.inl ⟨by rfl, ?hd1⟩) hS0 ?rd1
                case hd1 => (intro wz hSw; go_simp <;> with_reducible rfl)
                (try simp only [Act.put, List.setIfInBounds_toArray, List.set_cons_zero, List.set_cons_succ])
                refine wpAnyH_take (i := 2) (oi := ⟨some 75, Op.load 24 (Operand.tmp 11), 24, _, _, some (1, true)⟩) (v := ?vd2) rfl (by kernel_rfl) (by kernel_rfl) (by kernel_rfl) (fun _ _ _ h => h) (Or.inl ⟨by rfl, ?hd2⟩) hS0 ?rd2
                case hd2 => (intro wz hSw; obtain ⟨k0, k1, k2, k3, k4, k5, k6⟩ := (HG9.out.of hSw).cells; obtain ⟨x0, x1, x2⟩ := (HX9.out.of hSw).cells; obtain ⟨y0, y1, y2⟩ := (HY9.out.of hSw).cells; have z0 := (HZ9.out.kept (hSw.block _ HZ9.out.lt)).cell0; have z1 := (HZ9.out.kept (hSw.block _ HZ9.out.lt)).cell1; go_simp <;> with_reducible rfl)
                (try simp only [Act.put, List.setIfInBounds_toArray, List.set_cons_zero, List.set_cons_succ])
                refine wpAnyH_take (i := 3) (oi := ⟨some 76, Op.load 26 (Operand.tmp 5), 26, _, _, some (1, true)⟩) (v := ?vd3) rfl (by kernel_rfl) (by kernel_rfl) (by kernel_rfl) (fun _ _ _ h => h) (Or.inl ⟨by rfl, ?hd3⟩) hS0 ?rd3
                case hd3 => (intro wz hSw; obtain ⟨k0, k1, k2, k3, k4, k5, k6⟩ := (HG9.out.of hSw).cells; obtain ⟨x0, x1, x2⟩ := (HX9.out.of hSw).cells; obtain ⟨y0, y1, y2⟩ := (HY9.out.of hSw).cells; have z0 := (HZ9.out.kept (hSw.block _ HZ9.out.lt)).cell0; have z1 := (HZ9.out.kept (hSw.block _ HZ9.out.lt)).cell1; go_simp <;> with_reducible rfl)
                (try simp only [Act.put, List.setIfInBounds_toArray, List.set_cons_zero, List.set_cons_succ])
                refine wpAnyH_take (i := 4) (oi := ⟨some 77, Op.load 26 (Operand.tmp 6), 26, _, _, some (1, true)⟩) (v := ?vd4) rfl (by kernel_rfl) (by kernel_rfl) (by kernel_rfl) (fun _ _ _ h => h) (Or.inl ⟨by rfl, ?hd4⟩) hS0 ?rd4
                case hd4 => (intro wz hSw; obtain ⟨k0, k1, k2, k3, k4, k5, k6⟩ := (HG9.out.of hSw).cells; obtain ⟨x0, x1, x2⟩ := (HX9.out.of hSw).cells; obtain ⟨y0, y1, y2⟩ := (HY9.out.of hSw).cells; have z0 := (HZ9.out.kept (hSw.block _ HZ9.out.lt)).cell0; have z1 := (HZ9.out.kept (hSw.block _ HZ9.out.lt)).cell1; go_simp <;> with_reducible rfl)
                (try simp only [Act.put, List.setIfInBounds_toArray, List.set_cons_zero, List.set_cons_succ])
                refine wpAnyH_ready (rs := [5]) (by kernel_rfl) (by simp) ?_
                refine AllReadyH.cons (o := ⟨some 78, Op.call { callee := Callee.value (Operand.func 14), args := #[Operand.tmp 75, Operand.tmp 76, Operand.tmp 77], argTypes := #[24, 26, 26] }, 4, _, _, some (1, true)⟩) rfl (fun K hK => ?_) AllReadyH.nil
                go_simp
                (with_reducible refine (HSO.out _ hS0).mono ?_); rintro e v19 ⟨rfl, hB19⟩; have hS19 := hS0.trans (hB19.mono hS0.size)
                refine hK.out _ _ hS19 (fun _ => ?_)
                clear hK K
                (try simp only [Act.put, List.setIfInBounds_toArray, List.set_cons_zero, List.set_cons_succ])
                refine wpAnyH_take (i := 6) (oi := ⟨some 79, Op.pick (Operand.tmp 74) (Operand.tmp 78) (Operand.const (Value.bool false)), 4, _, _, none⟩) (v := ?vd6) rfl (by kernel_rfl) (by kernel_rfl) (by kernel_rfl) (fun _ _ _ h => h) (Or.inl ⟨by rfl, ?hd6⟩) hS19 ?rd6
                case hd6 => (intro wz hSw; go_simp <;> with_reducible rfl)
                (try simp only [Act.put, List.setIfInBounds_toArray, List.set_cons_zero, List.set_cons_succ])
                refine wpAnyH_take (i := 7) (oi := ⟨some 80, Op.move (Operand.tmp 79), 4, _, _, none⟩) (v := ?vd7) rfl (by kernel_rfl) (by kernel_rfl) (by kernel_rfl) (fun _ _ _ h => h) (Or.inl ⟨by rfl, ?hd7⟩) hS19 ?rd7
                case hd7 => (intro wz hSw; go_simp <;> with_reducible rfl)
                (try simp only [Act.put, List.setIfInBounds_toArray, List.set_cons_zero, List.set_cons_succ])
                refine wpAnyH_take (i := 8) (oi := ⟨some 81, Op.load 24 (Operand.tmp 12), 24, _, _, some (7, true)⟩) (v := ?vd8) rfl (by kernel_rfl) (by kernel_rfl) (by kernel_rfl) (fun _ _ _ h => h) (Or.inl ⟨by rfl, ?hd8⟩) hS19 ?rd8
                case hd8 => (intro wz hSw; obtain ⟨k0, k1, k2, k3, k4, k5, k6⟩ := (HG9.out.of hSw).cells; obtain ⟨x0, x1, x2⟩ := (HX9.out.of hSw).cells; obtain ⟨y0, y1, y2⟩ := (HY9.out.of hSw).cells; have z0 := (HZ9.out.kept (hSw.block _ HZ9.out.lt)).cell0; have z1 := (HZ9.out.kept (hSw.block _ HZ9.out.lt)).cell1; go_simp <;> with_reducible rfl)
                (try simp only [Act.put, List.setIfInBounds_toArray, List.set_cons_zero, List.set_cons_succ])
                refine wpAnyH_take (i := 9) (oi := ⟨some 82, Op.load 26 (Operand.tmp 5), 26, _, _, some (7, true)⟩) (v := ?vd9) rfl (by kernel_rfl) (by kernel_rfl) (by kernel_rfl) (fun _ _ _ h => h) (Or.inl ⟨by rfl, ?hd9⟩) hS19 ?rd9
                case hd9 => (intro wz hSw; obtain ⟨k0, k1, k2, k3, k4, k5, k6⟩ := (HG9.out.of hSw).cells; obtain ⟨x0, x1, x2⟩ := (HX9.out.of hSw).cells; obtain ⟨y0, y1, y2⟩ := (HY9.out.of hSw).cells; have z0 := (HZ9.out.kept (hSw.block _ HZ9.out.lt)).cell0; have z1 := (HZ9.out.kept (hSw.block _ HZ9.out.lt)).cell1; go_simp <;> with_reducible rfl)
                (try simp only [Act.put, List.setIfInBounds_toArray, List.set_cons_zero, List.set_cons_succ])
                refine wpAnyH_take (i := 10) (oi := ⟨some 83, Op.load 26 (Operand.tmp 6), 26, _, _, some (7, true)⟩) (v := ?vd10) rfl (by kernel_rfl) (by kernel_rfl) (by kernel_rfl) (fun _ _ _ h => h) (Or.inl ⟨by rfl, ?hd10⟩) hS19 ?rd10
                case hd10 => (intro wz hSw; obtain ⟨k0, k1, k2, k3, k4, k5, k6⟩ := (HG9.out.of hSw).cells; obtain ⟨x0, x1, x2⟩ := (HX9.out.of hSw).cells; obtain ⟨y0, y1, y2⟩ := (HY9.out.of hSw).cells; have z0 := (HZ9.out.kept (hSw.block _ HZ9.out.lt)).cell0; have z1 := (HZ9.out.kept (hSw.block _ HZ9.out.lt)).cell1; go_simp <;> with_reducible rfl)
                (try simp only [Act.put, List.setIfInBounds_toArray, List.set_cons_zero, List.set_cons_succ])
                refine wpAnyH_ready (rs := [11]) (by kernel_rfl) (by simp) ?_
                refine AllReadyH.cons (o := ⟨some 84, Op.call { callee := Callee.value (Operand.func 14), args := #[Operand.tmp 81, Operand.tmp 82, Operand.tmp 83], argTypes := #[24, 26, 26] }, 4, _, _, some (7, true)⟩) rfl (fun K hK => ?_) AllReadyH.nil
                go_simp
                (with_reducible refine (HSM.out _ hS19).mono ?_); rintro e v20 ⟨rfl, hB20⟩; have hS20 := hS19.trans (hB20.mono hS19.size)
                refine hK.out _ _ hS20 (fun _ => ?_)
                clear hK K
                (try simp only [Act.put, List.setIfInBounds_toArray, List.set_cons_zero, List.set_cons_succ])
                refine wpAnyH_take (i := 12) (oi := ⟨some 85, Op.unOp UnOp.not 4 (Operand.tmp 84), 4, _, _, some (7, true)⟩) (v := ?vd12) rfl (by kernel_rfl) (by kernel_rfl) (by kernel_rfl) (fun _ _ _ h => h) (Or.inl ⟨by rfl, ?hd12⟩) hS20 ?rd12
                case hd12 => (intro wz hSw; go_simp <;> with_reducible rfl)
                (try simp only [Act.put, List.setIfInBounds_toArray, List.set_cons_zero, List.set_cons_succ])
                refine wpAnyH_take (i := 13) (oi := ⟨some 86, Op.move (Operand.tmp 85), 4, _, _, some (7, true)⟩) (v := ?vd13) rfl (by kernel_rfl) (by kernel_rfl) (by kernel_rfl) (fun _ _ _ h => h) (Or.inl ⟨by rfl, ?hd13⟩) hS20 ?rd13
                case hd13 => (intro wz hSw; go_simp <;> with_reducible rfl)
                (try simp only [Act.put, List.setIfInBounds_toArray, List.set_cons_zero, List.set_cons_succ])
                refine wpAnyH_take (i := 14) (oi := ⟨some 87, Op.load 24 (Operand.tmp 4), 24, _, _, some (13, false)⟩) (v := undef) rfl (by kernel_rfl) (by kernel_rfl) (by kernel_rfl) (fun _ _ _ h => h) (Or.inr ⟨by rfl, rfl⟩) hS20 ?rd14
                (try simp only [Act.put, List.setIfInBounds_toArray, List.set_cons_zero, List.set_cons_succ])
                refine wpAnyH_take (i := 15) (oi := ⟨some 88, Op.load 26 (Operand.tmp 5), 26, _, _, some (13, false)⟩) (v := undef) rfl (by kernel_rfl) (by kernel_rfl) (by kernel_rfl) (fun _ _ _ h => h) (Or.inr ⟨by rfl, rfl⟩) hS20 ?rd15
                (try simp only [Act.put, List.setIfInBounds_toArray, List.set_cons_zero, List.set_cons_succ])
                refine wpAnyH_take (i := 16) (oi := ⟨some 89, Op.load 26 (Operand.tmp 6), 26, _, _, some (13, false)⟩) (v := undef) rfl (by kernel_rfl) (by kernel_rfl) (by kernel_rfl) (fun _ _ _ h => h) (Or.inr ⟨by rfl, rfl⟩) hS20 ?rd16
                (try simp only [Act.put, List.setIfInBounds_toArray, List.set_cons_zero, List.set_cons_succ])
                refine wpAnyH_take (i := 17) (oi := ⟨some 90, Op.call { callee := Callee.value (Operand.func 14), args := #[Operand.tmp 87, Operand.tmp 88, Operand.tmp 89], argTypes := #[24, 26, 26] }, 4, _, _, some (13, false)⟩) (v := undef) rfl (by kernel_rfl) (by kernel_rfl) (by kernel_rfl) (fun _ _ _ h => h) (Or.inr ⟨by rfl, rfl⟩) hS20 ?rd17
                (try simp only [Act.put, List.setIfInBounds_toArray, List.set_cons_zero, List.set_cons_succ])
                refine wpAnyH_take (i := 18) (oi := ⟨some 91, Op.pick (Operand.tmp 86) (Operand.const (Value.bool true)) (Operand.tmp 90), 4, _, _, some (7, true)⟩) (v := ?vd18) rfl (by kernel_rfl) (by kernel_rfl) (by kernel_rfl) (fun _ _ _ h => h) (Or.inl ⟨by rfl, ?hd18⟩) hS20 ?rd18
                case hd18 => (intro wz hSw; go_simp <;> with_reducible rfl)
                (try simp only [Act.put, List.setIfInBounds_toArray, List.set_cons_zero, List.set_cons_succ])
                refine wpAnyH_take (i := 19) (oi := ⟨some 92, Op.pick (Operand.tmp 80) (Operand.tmp 91) (Operand.const (Value.bool false)), 4, _, _, none⟩) (v := ?vd19) rfl (by kernel_rfl) (by kernel_rfl) (by kernel_rfl) (fun _ _ _ h => h) (Or.inl ⟨by rfl, ?hd19⟩) hS20 ?rd19
                case hd19 => (intro wz hSw; go_simp <;> with_reducible rfl)
                (try simp only [Act.put, List.setIfInBounds_toArray, List.set_cons_zero, List.set_cons_succ])
                refine wpAnyH_take (i := 20) (oi := ⟨some 93, Op.move (Operand.tmp 92), 4, _, _, none⟩) (v := ?vd20) rfl (by kernel_rfl) (by kernel_rfl) (by kernel_rfl) (fun _ _ _ h => h) (Or.inl ⟨by rfl, ?hd20⟩) hS20 ?rd20
                case hd20 => (intro wz hSw; go_simp <;> with_reducible rfl)
                (try simp only [Act.put, List.setIfInBounds_toArray, List.set_cons_zero, List.set_cons_succ])
                refine wpAnyH_take (i := 21) (oi := ⟨some 94, Op.move (Operand.tmp 14), 4, _, _, some (20, true)⟩) (v := ?vd21) rfl (by kernel_rfl) (by kernel_rfl) (by kernel_rfl) (fun _ _ _ h => h) (Or.inl ⟨by rfl, ?hd21⟩) hS20 ?rd21
                case hd21 => (intro wz hSw; go_simp <;> with_reducible rfl)
                (try simp only [Act.put, List.setIfInBounds_toArray, List.set_cons_zero, List.set_cons_succ])
                refine wpAnyH_take (i := 22) (oi := ⟨some 95, Op.load 24 (Operand.tmp 4), 24, _, _, some (20, true)⟩) (v := ?vd22) rfl (by kernel_rfl) (by kernel_rfl) (by kernel_rfl) (fun _ _ _ h => h) (Or.inl ⟨by rfl, ?hd22⟩) hS20 ?rd22
                case hd22 => (intro wz hSw; obtain ⟨k0, k1, k2, k3, k4, k5, k6⟩ := (HG9.out.of hSw).cells; obtain ⟨x0, x1, x2⟩ := (HX9.out.of hSw).cells; obtain ⟨y0, y1, y2⟩ := (HY9.out.of hSw).cells; have z0 := (HZ9.out.kept (hSw.block _ HZ9.out.lt)).cell0; have z1 := (HZ9.out.kept (hSw.block _ HZ9.out.lt)).cell1; go_simp <;> with_reducible rfl)
                (try simp only [Act.put, List.setIfInBounds_toArray, List.set_cons_zero, List.set_cons_succ])
                refine wpAnyH_take (i := 23) (oi := ⟨some 96, Op.load 26 (Operand.tmp 5), 26, _, _, some (20, true)⟩) (v := ?vd23) rfl (by kernel_rfl) (by kernel_rfl) (by kernel_rfl) (fun _ _ _ h => h) (Or.inl ⟨by rfl, ?hd23⟩) hS20 ?rd23
                case hd23 => (intro wz hSw; obtain ⟨k0, k1, k2, k3, k4, k5, k6⟩ := (HG9.out.of hSw).cells; obtain ⟨x0, x1, x2⟩ := (HX9.out.of hSw).cells; obtain ⟨y0, y1, y2⟩ := (HY9.out.of hSw).cells; have z0 := (HZ9.out.kept (hSw.block _ HZ9.out.lt)).cell0; have z1 := (HZ9.out.kept (hSw.block _ HZ9.out.lt)).cell1; go_simp <;> with_reducible rfl)
                (try simp only [Act.put, List.setIfInBounds_toArray, List.set_cons_zero, List.set_cons_succ])
                refine wpAnyH_take (i := 24) (oi := ⟨some 97, Op.load 26 (Operand.tmp 6), 26, _, _, some (20, true)⟩) (v := ?vd24) rfl (by kernel_rfl) (by kernel_rfl) (by kernel_rfl) (fun _ _ _ h => h) (Or.inl ⟨by rfl, ?hd24⟩) hS20 ?rd24
                case hd24 => (intro wz hSw; obtain ⟨k0, k1, k2, k3, k4, k5, k6⟩ := (HG9.out.of hSw).cells; obtain ⟨x0, x1, x2⟩ := (HX9.out.of hSw).cells; obtain ⟨y0, y1, y2⟩ := (HY9.out.of hSw).cells; have z0 := (HZ9.out.kept (hSw.block _ HZ9.out.lt)).cell0; have z1 := (HZ9.out.kept (hSw.block _ HZ9.out.lt)).cell1; go_simp <;> with_reducible rfl)
                (try simp only [Act.put, List.setIfInBounds_toArray, List.set_cons_zero, List.set_cons_succ])
                refine wpAnyH_ready (rs := [25]) (by kernel_rfl) (by simp) ?_
                refine AllReadyH.cons (o := ⟨some 98, Op.call { callee := Callee.value (Operand.func 14), args := #[Operand.tmp 95, Operand.tmp 96, Operand.tmp 97], argTypes := #[24, 26, 26] }, 4, _, _, some (20, true)⟩) rfl (fun K hK => ?_) AllReadyH.nil
                go_simp
                (with_reducible refine (HSG'.out _ hS20).mono ?_); rintro e v21 ⟨rfl, hB21⟩; have hS21 := hS20.trans (hB21.mono hS20.size)
                refine hK.out _ _ hS21 (fun _ => ?_)
                clear hK K
                (try simp only [Act.put, List.setIfInBounds_toArray, List.set_cons_zero, List.set_cons_succ])
                refine wpAnyH_take (i := 26) (oi := ⟨some 99, Op.binOp BinOp.neq 4 (Operand.tmp 94) (Operand.tmp 98) 4, 4, _, _, some (20, true)⟩) (v := ?vd26) rfl (by kernel_rfl) (by kernel_rfl) (by kernel_rfl) (fun _ _ _ h => h) (Or.inl ⟨by rfl, ?hd26⟩) hS21 ?rd26
                case hd26 => (intro wz hSw; go_simp <;> with_reducible rfl)
                (try simp only [Act.put, List.setIfInBounds_toArray, List.set_cons_zero, List.set_cons_succ])
                refine wpAnyH_take (i := 27) (oi := ⟨some 100, Op.pick (Operand.tmp 93) (Operand.tmp 99) (Operand.const (Value.bool false)), 4, _, _, none⟩) (v := ?vd27) rfl (by kernel_rfl) (by kernel_rfl) (by kernel_rfl) (fun _ _ _ h => h) (Or.inl ⟨by rfl, ?hd27⟩) hS21 ?rd27
                case hd27 => (intro wz hSw; go_simp <;> with_reducible rfl)
                (try simp only [Act.put, List.setIfInBounds_toArray, List.set_cons_zero, List.set_cons_succ])
                refine wpAnyH_take (i := 28) (oi := ⟨some 101, Op.move (Operand.tmp 100), 4, _, _, none⟩) (v := ?vd28) rfl (by kernel_rfl) (by kernel_rfl) (by kernel_rfl) (fun _ _ _ h => h) (Or.inl ⟨by rfl, ?hd28⟩) hS21 ?rd28
                case hd28 => (intro wz hSw; go_simp <;> with_reducible rfl)
                (try simp only [Act.put, List.setIfInBounds_toArray, List.set_cons_zero, List.set_cons_succ])
                refine wpAnyH_take (i := 29) (oi := ⟨some 102, Op.move (Operand.tmp 14), 4, _, _, some (28, true)⟩) (v := ?vd29) rfl (by kernel_rfl) (by kernel_rfl) (by kernel_rfl) (fun _ _ _ h => h) (Or.inl ⟨by rfl, ?hd29⟩) hS21 ?rd29
                case hd29 => (intro wz hSw; go_simp <;> with_reducible rfl)
                (try simp only [Act.put, List.setIfInBounds_toArray, List.set_cons_zero, List.set_cons_succ])
                refine wpAnyH_take (i := 30) (oi := ⟨some 103, Op.unOp UnOp.not 4 (Operand.tmp 102), 4, _, _, some (28, true)⟩) (v := ?vd30) rfl (by kernel_rfl) (by kernel_rfl) (by kernel_rfl) (fun _ _ _ h => h) (Or.inl ⟨by rfl, ?hd30⟩) hS21 ?rd30
                case hd30 => (intro wz hSw; go_simp <;> with_reducible rfl)
                (try simp only [Act.put, List.setIfInBounds_toArray, List.set_cons_zero, List.set_cons_succ])
                refine wpAnyH_take (i := 31) (oi := ⟨some 104, Op.move (Operand.tmp 103), 4, _, _, some (28, true)⟩) (v := ?vd31) rfl (by kernel_rfl) (by kernel_rfl) (by kernel_rfl) (fun _ _ _ h => h) (Or.inl ⟨by rfl, ?hd31⟩) hS21 ?rd31
                case hd31 => (intro wz hSw; go_simp <;> with_reducible rfl)
                (try simp only [Act.put, List.setIfInBounds_toArray, List.set_cons_zero, List.set_cons_succ])
                refine wpAnyH_take (i := 32) (oi := ⟨some 105, Op.load 24 (Operand.tmp 4), 24, _, _, some (31, false)⟩) (v := undef) rfl (by kernel_rfl) (by kernel_rfl) (by kernel_rfl) (fun _ _ _ h => h) (Or.inr ⟨by rfl, rfl⟩) hS21 ?rd32
                (try simp only [Act.put, List.setIfInBounds_toArray, List.set_cons_zero, List.set_cons_succ])
                refine wpAnyH_take (i := 33) (oi := ⟨some 106, Op.load 26 (Operand.tmp 13), 26, _, _, some (31, false)⟩) (v := undef) rfl (by kernel_rfl) (by kernel_rfl) (by kernel_rfl) (fun _ _ _ h => h) (Or.inr ⟨by rfl, rfl⟩) hS21 ?rd33
                (try simp only [Act.put, List.setIfInBounds_toArray, List.set_cons_zero, List.set_cons_succ])
                refine wpAnyH_take (i := 34) (oi := ⟨some 107, Op.call { callee := Callee.value (Operand.func 21), args := #[Operand.tmp 105, Operand.tmp 106], argTypes := #[24, 26] }, 4, _, _, some (31, false)⟩) (v := undef) rfl (by kernel_rfl) (by kernel_rfl) (by kernel_rfl) (fun _ _ _ h => h) (Or.inr ⟨by rfl, rfl⟩) hS21 ?rd34
                (try simp only [Act.put, List.setIfInBounds_toArray, List.set_cons_zero, List.set_cons_succ])
                refine wpAnyH_take (i := 35) (oi := ⟨some 108, Op.move (Operand.tmp 107), 4, _, _, some (31, false)⟩) (v := undef) rfl (by kernel_rfl) (by kernel_rfl) (by kernel_rfl) (fun _ _ _ h => h) (Or.inr ⟨by rfl, rfl⟩) hS21 ?rd35
                (try simp only [Act.put, List.setIfInBounds_toArray, List.set_cons_zero, List.set_cons_succ])
                refine wpAnyH_take (i := 36) (oi := ⟨some 109, Op.load 24 (Operand.tmp 4), 24, _, _, some (35, true)⟩) (v := undef) rfl (by kernel_rfl) (by kernel_rfl) (by kernel_rfl) (fun _ _ _ h => h) (Or.inr ⟨by rfl, rfl⟩) hS21 ?rd36
                (try simp only [Act.put, List.setIfInBounds_toArray, List.set_cons_zero, List.set_cons_succ])
                refine wpAnyH_take (i := 37) (oi := ⟨some 110, Op.load 26 (Operand.tmp 5), 26, _, _, some (35, true)⟩) (v := undef) rfl (by kernel_rfl) (by kernel_rfl) (by kernel_rfl) (fun _ _ _ h => h) (Or.inr ⟨by rfl, rfl⟩) hS21 ?rd37
                (try simp only [Act.put, List.setIfInBounds_toArray, List.set_cons_zero, List.set_cons_succ])
                refine wpAnyH_take (i := 38) (oi := ⟨some 111, Op.load 26 (Operand.tmp 6), 26, _, _, some (35, true)⟩) (v := undef) rfl (by kernel_rfl) (by kernel_rfl) (by kernel_rfl) (fun _ _ _ h => h) (Or.inr ⟨by rfl, rfl⟩) hS21 ?rd38
                (try simp only [Act.put, List.setIfInBounds_toArray, List.set_cons_zero, List.set_cons_succ])
                refine wpAnyH_take (i := 39) (oi := ⟨some 112, Op.call { callee := Callee.value (Operand.func 12), args := #[Operand.tmp 109, Operand.tmp 110, Operand.tmp 111], argTypes := #[24, 26, 26] }, 32, _, _, some (35, true)⟩) (v := undef) rfl (by kernel_rfl) (by kernel_rfl) (by kernel_rfl) (fun _ _ _ h => h) (Or.inr ⟨by rfl, rfl⟩) hS21 ?rd39
                (try simp only [Act.put, List.setIfInBounds_toArray, List.set_cons_zero, List.set_cons_succ])
                refine wpAnyH_take (i := 40) (oi := ⟨some 113, Op.load 26 (Operand.tmp 13), 26, _, _, some (35, true)⟩) (v := undef) rfl (by kernel_rfl) (by kernel_rfl) (by kernel_rfl) (fun _ _ _ h => h) (Or.inr ⟨by rfl, rfl⟩) hS21 ?rd40
                (try simp only [Act.put, List.setIfInBounds_toArray, List.set_cons_zero, List.set_cons_succ])
                refine wpAnyH_take (i := 41) (oi := ⟨some 114, Op.call { callee := Callee.value (Operand.func 19), args := #[Operand.tmp 112, Operand.tmp 113], argTypes := #[32, 26] }, 4, _, _, some (35, true)⟩) (v := undef) rfl (by kernel_rfl) (by kernel_rfl) (by kernel_rfl) (fun _ _ _ h => h) (Or.inr ⟨by rfl, rfl⟩) hS21 ?rd41
                (try simp only [Act.put, List.setIfInBounds_toArray, List.set_cons_zero, List.set_cons_succ])
                refine wpAnyH_take (i := 42) (oi := ⟨some 115, Op.pick (Operand.tmp 108) (Operand.tmp 114) (Operand.const (Value.bool false)), 4, _, _, some (31, false)⟩) (v := undef) rfl (by kernel_rfl) (by kernel_rfl) (by kernel_rfl) (fun _ _ _ h => h) (Or.inr ⟨by rfl, rfl⟩) hS21 ?rd42
                (try simp only [Act.put, List.setIfInBounds_toArray, List.set_cons_zero, List.set_cons_succ])
                refine wpAnyH_take (i := 43) (oi := ⟨some 116, Op.move (Operand.tmp 115), 4, _, _, some (31, false)⟩) (v := undef) rfl (by kernel_rfl) (by kernel_rfl) (by kernel_rfl) (fun _ _ _ h => h) (Or.inr ⟨by rfl, rfl⟩) hS21 ?rd43
                (try simp only [Act.put, List.setIfInBounds_toArray, List.set_cons_zero, List.set_cons_succ])
                refine wpAnyH_take (i := 44) (oi := ⟨some 117, Op.load 26 (Operand.tmp 13), 26, _, _, some (43, true)⟩) (v := undef) rfl (by kernel_rfl) (by kernel_rfl) (by kernel_rfl) (fun _ _ _ h => h) (Or.inr ⟨by rfl, rfl⟩) hS21 ?rd44
                (try simp only [Act.put, List.setIfInBounds_toArray, List.set_cons_zero, List.set_cons_succ])
                refine wpAnyH_take (i := 45) (oi := ⟨some 118, Op.load 26 (Operand.tmp 5), 26, _, _, some (43, true)⟩) (v := undef) rfl (by kernel_rfl) (by kernel_rfl) (by kernel_rfl) (fun _ _ _ h => h) (Or.inr ⟨by rfl, rfl⟩) hS21 ?rd45
                (try simp only [Act.put, List.setIfInBounds_toArray, List.set_cons_zero, List.set_cons_succ])
                refine wpAnyH_take (i := 46) (oi := ⟨some 119, Op.binOp BinOp.neq 26 (Operand.tmp 117) (Operand.tmp 118) 26, 4, _, _, some (43, true)⟩) (v := undef) rfl (by kernel_rfl) (by kernel_rfl) (by kernel_rfl) (fun _ _ _ h => h) (Or.inr ⟨by rfl, rfl⟩) hS21 ?rd46
                (try simp only [Act.put, List.setIfInBounds_toArray, List.set_cons_zero, List.set_cons_succ])
                refine wpAnyH_take (i := 47) (oi := ⟨some 120, Op.pick (Operand.tmp 116) (Operand.tmp 119) (Operand.const (Value.bool false)), 4, _, _, some (31, false)⟩) (v := undef) rfl (by kernel_rfl) (by kernel_rfl) (by kernel_rfl) (fun _ _ _ h => h) (Or.inr ⟨by rfl, rfl⟩) hS21 ?rd47
                (try simp only [Act.put, List.setIfInBounds_toArray, List.set_cons_zero, List.set_cons_succ])
                refine wpAnyH_take (i := 48) (oi := ⟨some 121, Op.move (Operand.tmp 120), 4, _, _, some (31, false)⟩) (v := undef) rfl (by kernel_rfl) (by kernel_rfl) (by kernel_rfl) (fun _ _ _ h => h) (Or.inr ⟨by rfl, rfl⟩) hS21 ?rd48
                (try simp only [Act.put, List.setIfInBounds_toArray, List.set_cons_zero, List.set_cons_succ])
                refine wpAnyH_take (i := 49) (oi := ⟨some 122, Op.load 26 (Operand.tmp 13), 26, _, _, some (48, true)⟩) (v := undef) rfl (by kernel_rfl) (by kernel_rfl) (by kernel_rfl) (fun _ _ _ h => h) (Or.inr ⟨by rfl, rfl⟩) hS21 ?rd49
                (try simp only [Act.put, List.setIfInBounds_toArray, List.set_cons_zero, List.set_cons_succ])
                refine wpAnyH_take (i := 50) (oi := ⟨some 123, Op.load 26 (Operand.tmp 6), 26, _, _, some (48, true)⟩) (v := undef) rfl (by kernel_rfl) (by kernel_rfl) (by kernel_rfl) (fun _ _ _ h => h) (Or.inr ⟨by rfl, rfl⟩) hS21 ?rd50
                (try simp only [Act.put, List.setIfInBounds_toArray, List.set_cons_zero, List.set_cons_succ])
                refine wpAnyH_take (i := 51) (oi := ⟨some 124, Op.binOp BinOp.neq 26 (Operand.tmp 122) (Operand.tmp 123) 26, 4, _, _, some (48, true)⟩) (v := undef) rfl (by kernel_rfl) (by kernel_rfl) (by kernel_rfl) (fun _ _ _ h => h) (Or.inr ⟨by rfl, rfl⟩) hS21 ?rd51
                (try simp only [Act.put, List.setIfInBounds_toArray, List.set_cons_zero, List.set_cons_succ])
                refine wpAnyH_take (i := 52) (oi := ⟨some 125, Op.pick (Operand.tmp 121) (Operand.tmp 124) (Operand.const (Value.bool false)), 4, _, _, some (31, false)⟩) (v := undef) rfl (by kernel_rfl) (by kernel_rfl) (by kernel_rfl) (fun _ _ _ h => h) (Or.inr ⟨by rfl, rfl⟩) hS21 ?rd52
                (try simp only [Act.put, List.setIfInBounds_toArray, List.set_cons_zero, List.set_cons_succ])
                refine wpAnyH_take (i := 53) (oi := ⟨some 126, Op.pick (Operand.tmp 104) (Operand.const (Value.bool true)) (Operand.tmp 125), 4, _, _, some (28, true)⟩) (v := ?vd53) rfl (by kernel_rfl) (by kernel_rfl) (by kernel_rfl) (fun _ _ _ h => h) (Or.inl ⟨by rfl, ?hd53⟩) hS21 ?rd53
                case hd53 => (intro wz hSw; go_simp <;> with_reducible rfl)
                (try simp only [Act.put, List.setIfInBounds_toArray, List.set_cons_zero, List.set_cons_succ])
                refine wpAnyH_take (i := 54) (oi := ⟨some 127, Op.pick (Operand.tmp 101) (Operand.tmp 126) (Operand.const (Value.bool false)), 4, _, _, none⟩) (v := ?vd54) rfl (by kernel_rfl) (by kernel_rfl) (by kernel_rfl) (fun _ _ _ h => h) (Or.inl ⟨by rfl, ?hd54⟩) hS21 ?rd54
                case hd54 => (intro wz hSw; go_simp <;> with_reducible rfl)
                (try simp only [Act.put, List.setIfInBounds_toArray, List.set_cons_zero, List.set_cons_succ])
                refine wpAnyH_take (i := 55) (oi := ⟨some 128, Op.move (Operand.tmp 127), 4, _, _, none⟩) (v := ?vd55) rfl (by kernel_rfl) (by kernel_rfl) (by kernel_rfl) (fun _ _ _ h => h) (Or.inl ⟨by rfl, ?hd55⟩) hS21 ?rd55
                case hd55 => (intro wz hSw; go_simp <;> with_reducible rfl)
                (try simp only [Act.put, List.setIfInBounds_toArray, List.set_cons_zero, List.set_cons_succ])
                refine wpAnyH_take (i := 56) (oi := ⟨some 129, Op.load 24 (Operand.tmp 4), 24, _, _, some (55, true)⟩) (v := ?vd56) rfl (by kernel_rfl) (by kernel_rfl) (by kernel_rfl) (fun _ _ _ h => h) (Or.inl ⟨by rfl, ?hd56⟩) hS21 ?rd56
                case hd56 => (intro wz hSw; obtain ⟨k0, k1, k2, k3, k4, k5, k6⟩ := (HG9.out.of hSw).cells; obtain ⟨x0, x1, x2⟩ := (HX9.out.of hSw).cells; obtain ⟨y0, y1, y2⟩ := (HY9.out.of hSw).cells; have z0 := (HZ9.out.kept (hSw.block _ HZ9.out.lt)).cell0; have z1 := (HZ9.out.kept (hSw.block _ HZ9.out.lt)).cell1; go_simp <;> with_reducible rfl)
                (try simp only [Act.put, List.setIfInBounds_toArray, List.set_cons_zero, List.set_cons_succ])
                refine wpAnyH_take (i := 57) (oi := ⟨some 130, Op.load 26 (Operand.tmp 5), 26, _, _, some (55, true)⟩) (v := ?vd57) rfl (by kernel_rfl) (by kernel_rfl) (by kernel_rfl) (fun _ _ _ h => h) (Or.inl ⟨by rfl, ?hd57⟩) hS21 ?rd57
                case hd57 => (intro wz hSw; obtain ⟨k0, k1, k2, k3, k4, k5, k6⟩ := (HG9.out.of hSw).cells; obtain ⟨x0, x1, x2⟩ := (HX9.out.of hSw).cells; obtain ⟨y0, y1, y2⟩ := (HY9.out.of hSw).cells; have z0 := (HZ9.out.kept (hSw.block _ HZ9.out.lt)).cell0; have z1 := (HZ9.out.kept (hSw.block _ HZ9.out.lt)).cell1; go_simp <;> with_reducible rfl)
                (try simp only [Act.put, List.setIfInBounds_toArray, List.set_cons_zero, List.set_cons_succ])
                refine wpAnyH_take (i := 58) (oi := ⟨some 131, Op.load 26 (Operand.tmp 5), 26, _, _, some (55, true)⟩) (v := ?vd58) rfl (by kernel_rfl) (by kernel_rfl) (by kernel_rfl) (fun _ _ _ h => h) (Or.inl ⟨by rfl, ?hd58⟩) hS21 ?rd58
                case hd58 => (intro wz hSw; obtain ⟨k0, k1, k2, k3, k4, k5, k6⟩ := (HG9.out.of hSw).cells; obtain ⟨x0, x1, x2⟩ := (HX9.out.of hSw).cells; obtain ⟨y0, y1, y2⟩ := (HY9.out.of hSw).cells; have z0 := (HZ9.out.kept (hSw.block _ HZ9.out.lt)).cell0; have z1 := (HZ9.out.kept (hSw.block _ HZ9.out.lt)).cell1; go_simp <;> with_reducible rfl)
                (try simp only [Act.put, List.setIfInBounds_toArray, List.set_cons_zero, List.set_cons_succ])
                refine wpAnyH_ready (rs := [59]) (by kernel_rfl) (by simp) ?_
                refine AllReadyH.cons (o := ⟨some 132, Op.call { callee := Callee.value (Operand.func 14), args := #[Operand.tmp 129, Operand.tmp 130, Operand.tmp 131], argTypes := #[24, 26, 26] }, 4, _, _, some (55, true)⟩) rfl (fun K hK => ?_) AllReadyH.nil
                go_simp
                (with_reducible refine (HSA.out _ hS21).mono ?_); rintro e v22 ⟨rfl, hB22⟩; have hS22 := hS21.trans (hB22.mono hS21.size)
                refine hK.out _ _ hS22 (fun _ => ?_)
                clear hK K
                (try simp only [Act.put, List.setIfInBounds_toArray, List.set_cons_zero, List.set_cons_succ])
                refine wpAnyH_take (i := 60) (oi := ⟨some 133, Op.pick (Operand.tmp 128) (Operand.tmp 132) (Operand.const (Value.bool false)), 4, _, _, none⟩) (v := ?vd60) rfl (by kernel_rfl) (by kernel_rfl) (by kernel_rfl) (fun _ _ _ h => h) (Or.inl ⟨by rfl, ?hd60⟩) hS22 ?rd60
                case hd60 => (intro wz hSw; go_simp <;> with_reducible rfl)
                (try simp only [Act.put, List.setIfInBounds_toArray, List.set_cons_zero, List.set_cons_succ])
                refine wpAnyH_take (i := 61) (oi := ⟨some 8, Op.assign (Operand.tmp 133), 4, _, _, none⟩) (v := ?vd61) rfl (by kernel_rfl) (by kernel_rfl) (by kernel_rfl) (fun _ _ _ h => h) (Or.inl ⟨by rfl, ?hd61⟩) hS22 ?rd61
                case hd61 => (intro wz hSw; go_simp <;> with_reducible rfl)
                (try simp only [Act.put, List.setIfInBounds_toArray, List.set_cons_zero, List.set_cons_succ])
                refine wpAnyH_done (by kernel_rfl) ?_ _
                refine NoPanic.normal ?_
                have hfin := HB9W.out.trans (hS22.mono HB9W.out.size)
                go_wp2
                go_ret
                exact ⟨rfl, hfin⟩
              | true =>
                refine wp_region_noPanic ?_
                refine wp_region_held_drew (S := fun w' => Below w9.heap.size w9 w') (by kernel_rfl) hS0 (fun _ => ?_)
                refine wpAnyH_take (i := 0) (oi := ⟨some 73, Op.move (Operand.tmp 9), 4, _, _, none⟩) (v := ?ve0) rfl (by kernel_rfl) (by kernel_rfl) (by kernel_rfl) (fun _ _ _ h => h) (Or.inl ⟨by rfl, ?he0⟩) hS0 ?re0
                case he0 => (intro wz hSw; go_simp <;> with_reducible rfl)
                (try simp only [Act.put, List.setIfInBounds_toArray, List.set_cons_zero, List.set_cons_succ])
                refine wpAnyH_take (i := 1) (oi := ⟨some 74, Op.move (Operand.tmp 73), 4, _, _, none⟩) (v := ?ve1) rfl (by kernel_rfl) (by kernel_rfl) (by kernel_rfl) (fun _ _ _ h => h) (Or.inl ⟨by rfl, ?he1⟩) hS0 ?re1
                case he1 => (intro wz hSw; go_simp <;> with_reducible rfl)
                (try simp only [Act.put, List.setIfInBounds_toArray, List.set_cons_zero, List.set_cons_succ])
                refine wpAnyH_take (i := 2) (oi := ⟨some 75, Op.load 24 (Operand.tmp 11), 24, _, _, some (1, true)⟩) (v := ?ve2) rfl (by kernel_rfl) (by kernel_rfl) (by kernel_rfl) (fun _ _ _ h => h) (Or.inl ⟨by rfl, ?he2⟩) hS0 ?re2
                case he2 => (intro wz hSw; obtain ⟨k0, k1, k2, k3, k4, k5, k6⟩ := (HG9.out.of hSw).cells; obtain ⟨x0, x1, x2⟩ := (HX9.out.of hSw).cells; obtain ⟨y0, y1, y2⟩ := (HY9.out.of hSw).cells; have z0 := (HZ9.out.kept (hSw.block _ HZ9.out.lt)).cell0; have z1 := (HZ9.out.kept (hSw.block _ HZ9.out.lt)).cell1; go_simp <;> with_reducible rfl)
                (try simp only [Act.put, List.setIfInBounds_toArray, List.set_cons_zero, List.set_cons_succ])
                refine wpAnyH_take (i := 3) (oi := ⟨some 76, Op.load 26 (Operand.tmp 5), 26, _, _, some (1, true)⟩) (v := ?ve3) rfl (by kernel_rfl) (by kernel_rfl) (by kernel_rfl) (fun _ _ _ h => h) (Or.inl ⟨by rfl, ?he3⟩) hS0 ?re3
                case he3 => (intro wz hSw; obtain ⟨k0, k1, k2, k3, k4, k5, k6⟩ := (HG9.out.of hSw).cells; obtain ⟨x0, x1, x2⟩ := (HX9.out.of hSw).cells; obtain ⟨y0, y1, y2⟩ := (HY9.out.of hSw).cells; have z0 := (HZ9.out.kept (hSw.block _ HZ9.out.lt)).cell0; have z1 := (HZ9.out.kept (hSw.block _ HZ9.out.lt)).cell1; go_simp <;> with_reducible rfl)
                (try simp only [Act.put, List.setIfInBounds_toArray, List.set_cons_zero, List.set_cons_succ])
                refine wpAnyH_take (i := 4) (oi := ⟨some 77, Op.load 26 (Operand.tmp 6), 26, _, _, some (1, true)⟩) (v := ?ve4) rfl (by kernel_rfl) (by kernel_rfl) (by kernel_rfl) (fun _ _ _ h => h) (Or.inl ⟨by rfl, ?he4⟩) hS0 ?re4
                case he4 => (intro wz hSw; obtain ⟨k0, k1, k2, k3, k4, k5, k6⟩ := (HG9.out.of hSw).cells; obtain ⟨x0, x1, x2⟩ := (HX9.out.of hSw).cells; obtain ⟨y0, y1, y2⟩ := (HY9.out.of hSw).cells; have z0 := (HZ9.out.kept (hSw.block _ HZ9.out.lt)).cell0; have z1 := (HZ9.out.kept (hSw.block _ HZ9.out.lt)).cell1; go_simp <;> with_reducible rfl)
                (try simp only [Act.put, List.setIfInBounds_toArray, List.set_cons_zero, List.set_cons_succ])
                refine wpAnyH_ready (rs := [5]) (by kernel_rfl) (by simp) ?_
                refine AllReadyH.cons (o := ⟨some 78, Op.call { callee := Callee.value (Operand.func 14), args := #[Operand.tmp 75, Operand.tmp 76, Operand.tmp 77], argTypes := #[24, 26, 26] }, 4, _, _, some (1, true)⟩) rfl (fun K hK => ?_) AllReadyH.nil
                go_simp
                (with_reducible refine (HSO.out _ hS0).mono ?_); rintro e v23 ⟨rfl, hB23⟩; have hS23 := hS0.trans (hB23.mono hS0.size)
                refine hK.out _ _ hS23 (fun _ => ?_)
                clear hK K
                (try simp only [Act.put, List.setIfInBounds_toArray, List.set_cons_zero, List.set_cons_succ])
                refine wpAnyH_take (i := 6) (oi := ⟨some 79, Op.pick (Operand.tmp 74) (Operand.tmp 78) (Operand.const (Value.bool false)), 4, _, _, none⟩) (v := ?ve6) rfl (by kernel_rfl) (by kernel_rfl) (by kernel_rfl) (fun _ _ _ h => h) (Or.inl ⟨by rfl, ?he6⟩) hS23 ?re6
                case he6 => (intro wz hSw; go_simp <;> with_reducible rfl)
                (try simp only [Act.put, List.setIfInBounds_toArray, List.set_cons_zero, List.set_cons_succ])
                refine wpAnyH_take (i := 7) (oi := ⟨some 80, Op.move (Operand.tmp 79), 4, _, _, none⟩) (v := ?ve7) rfl (by kernel_rfl) (by kernel_rfl) (by kernel_rfl) (fun _ _ _ h => h) (Or.inl ⟨by rfl, ?he7⟩) hS23 ?re7
                case he7 => (intro wz hSw; go_simp <;> with_reducible rfl)
                (try simp only [Act.put, List.setIfInBounds_toArray, List.set_cons_zero, List.set_cons_succ])
                refine wpAnyH_take (i := 8) (oi := ⟨some 81, Op.load 24 (Operand.tmp 12), 24, _, _, some (7, true)⟩) (v := ?ve8) rfl (by kernel_rfl) (by kernel_rfl) (by kernel_rfl) (fun _ _ _ h => h) (Or.inl ⟨by rfl, ?he8⟩) hS23 ?re8
                case he8 => (intro wz hSw; obtain ⟨k0, k1, k2, k3, k4, k5, k6⟩ := (HG9.out.of hSw).cells; obtain ⟨x0, x1, x2⟩ := (HX9.out.of hSw).cells; obtain ⟨y0, y1, y2⟩ := (HY9.out.of hSw).cells; have z0 := (HZ9.out.kept (hSw.block _ HZ9.out.lt)).cell0; have z1 := (HZ9.out.kept (hSw.block _ HZ9.out.lt)).cell1; go_simp <;> with_reducible rfl)
                (try simp only [Act.put, List.setIfInBounds_toArray, List.set_cons_zero, List.set_cons_succ])
                refine wpAnyH_take (i := 9) (oi := ⟨some 82, Op.load 26 (Operand.tmp 5), 26, _, _, some (7, true)⟩) (v := ?ve9) rfl (by kernel_rfl) (by kernel_rfl) (by kernel_rfl) (fun _ _ _ h => h) (Or.inl ⟨by rfl, ?he9⟩) hS23 ?re9
                case he9 => (intro wz hSw; obtain ⟨k0, k1, k2, k3, k4, k5, k6⟩ := (HG9.out.of hSw).cells; obtain ⟨x0, x1, x2⟩ := (HX9.out.of hSw).cells; obtain ⟨y0, y1, y2⟩ := (HY9.out.of hSw).cells; have z0 := (HZ9.out.kept (hSw.block _ HZ9.out.lt)).cell0; have z1 := (HZ9.out.kept (hSw.block _ HZ9.out.lt)).cell1; go_simp <;> with_reducible rfl)
                (try simp only [Act.put, List.setIfInBounds_toArray, List.set_cons_zero, List.set_cons_succ])
                refine wpAnyH_take (i := 10) (oi := ⟨some 83, Op.load 26 (Operand.tmp 6), 26, _, _, some (7, true)⟩) (v := ?ve10) rfl (by kernel_rfl) (by kernel_rfl) (by kernel_rfl) (fun _ _ _ h => h) (Or.inl ⟨by rfl, ?he10⟩) hS23 ?re10
                case he10 => (intro wz hSw; obtain ⟨k0, k1, k2, k3, k4, k5, k6⟩ := (HG9.out.of hSw).cells; obtain ⟨x0, x1, x2⟩ := (HX9.out.of hSw).cells; obtain ⟨y0, y1, y2⟩ := (HY9.out.of hSw).cells; have z0 := (HZ9.out.kept (hSw.block _ HZ9.out.lt)).cell0; have z1 := (HZ9.out.kept (hSw.block _ HZ9.out.lt)).cell1; go_simp <;> with_reducible rfl)
                (try simp only [Act.put, List.setIfInBounds_toArray, List.set_cons_zero, List.set_cons_succ])
                refine wpAnyH_ready (rs := [11]) (by kernel_rfl) (by simp) ?_
                refine AllReadyH.cons (o := ⟨some 84, Op.call { callee := Callee.value (Operand.func 14), args := #[Operand.tmp 81, Operand.tmp 82, Operand.tmp 83], argTypes := #[24, 26, 26] }, 4, _, _, some (7, true)⟩) rfl (fun K hK => ?_) AllReadyH.nil
                go_simp
                (with_reducible refine (HSM.out _ hS23).mono ?_); rintro e v24 ⟨rfl, hB24⟩; have hS24 := hS23.trans (hB24.mono hS23.size)
                refine hK.out _ _ hS24 (fun _ => ?_)
                clear hK K
                (try simp only [Act.put, List.setIfInBounds_toArray, List.set_cons_zero, List.set_cons_succ])
                refine wpAnyH_take (i := 12) (oi := ⟨some 85, Op.unOp UnOp.not 4 (Operand.tmp 84), 4, _, _, some (7, true)⟩) (v := ?ve12) rfl (by kernel_rfl) (by kernel_rfl) (by kernel_rfl) (fun _ _ _ h => h) (Or.inl ⟨by rfl, ?he12⟩) hS24 ?re12
                case he12 => (intro wz hSw; go_simp <;> with_reducible rfl)
                (try simp only [Act.put, List.setIfInBounds_toArray, List.set_cons_zero, List.set_cons_succ])
                refine wpAnyH_take (i := 13) (oi := ⟨some 86, Op.move (Operand.tmp 85), 4, _, _, some (7, true)⟩) (v := ?ve13) rfl (by kernel_rfl) (by kernel_rfl) (by kernel_rfl) (fun _ _ _ h => h) (Or.inl ⟨by rfl, ?he13⟩) hS24 ?re13
                case he13 => (intro wz hSw; go_simp <;> with_reducible rfl)
                (try simp only [Act.put, List.setIfInBounds_toArray, List.set_cons_zero, List.set_cons_succ])
                refine wpAnyH_take (i := 14) (oi := ⟨some 87, Op.load 24 (Operand.tmp 4), 24, _, _, some (13, false)⟩) (v := ?ve14) rfl (by kernel_rfl) (by kernel_rfl) (by kernel_rfl) (fun _ _ _ h => h) (Or.inl ⟨by rfl, ?he14⟩) hS24 ?re14
                case he14 => (intro wz hSw; obtain ⟨k0, k1, k2, k3, k4, k5, k6⟩ := (HG9.out.of hSw).cells; obtain ⟨x0, x1, x2⟩ := (HX9.out.of hSw).cells; obtain ⟨y0, y1, y2⟩ := (HY9.out.of hSw).cells; have z0 := (HZ9.out.kept (hSw.block _ HZ9.out.lt)).cell0; have z1 := (HZ9.out.kept (hSw.block _ HZ9.out.lt)).cell1; go_simp <;> with_reducible rfl)
                (try simp only [Act.put, List.setIfInBounds_toArray, List.set_cons_zero, List.set_cons_succ])
                refine wpAnyH_take (i := 15) (oi := ⟨some 88, Op.load 26 (Operand.tmp 5), 26, _, _, some (13, false)⟩) (v := ?ve15) rfl (by kernel_rfl) (by kernel_rfl) (by kernel_rfl) (fun _ _ _ h => h) (Or.inl ⟨by rfl, ?he15⟩) hS24 ?re15
                case he15 => (intro wz hSw; obtain ⟨k0, k1, k2, k3, k4, k5, k6⟩ := (HG9.out.of hSw).cells; obtain ⟨x0, x1, x2⟩ := (HX9.out.of hSw).cells; obtain ⟨y0, y1, y2⟩ := (HY9.out.of hSw).cells; have z0 := (HZ9.out.kept (hSw.block _ HZ9.out.lt)).cell0; have z1 := (HZ9.out.kept (hSw.block _ HZ9.out.lt)).cell1; go_simp <;> with_reducible rfl)
                (try simp only [Act.put, List.setIfInBounds_toArray, List.set_cons_zero, List.set_cons_succ])
                refine wpAnyH_take (i := 16) (oi := ⟨some 89, Op.load 26 (Operand.tmp 6), 26, _, _, some (13, false)⟩) (v := ?ve16) rfl (by kernel_rfl) (by kernel_rfl) (by kernel_rfl) (fun _ _ _ h => h) (Or.inl ⟨by rfl, ?he16⟩) hS24 ?re16
                case he16 => (intro wz hSw; obtain ⟨k0, k1, k2, k3, k4, k5, k6⟩ := (HG9.out.of hSw).cells; obtain ⟨x0, x1, x2⟩ := (HX9.out.of hSw).cells; obtain ⟨y0, y1, y2⟩ := (HY9.out.of hSw).cells; have z0 := (HZ9.out.kept (hSw.block _ HZ9.out.lt)).cell0; have z1 := (HZ9.out.kept (hSw.block _ HZ9.out.lt)).cell1; go_simp <;> with_reducible rfl)
                (try simp only [Act.put, List.setIfInBounds_toArray, List.set_cons_zero, List.set_cons_succ])
                refine wpAnyH_ready (rs := [17]) (by kernel_rfl) (by simp) ?_
                refine AllReadyH.cons (o := ⟨some 90, Op.call { callee := Callee.value (Operand.func 14), args := #[Operand.tmp 87, Operand.tmp 88, Operand.tmp 89], argTypes := #[24, 26, 26] }, 4, _, _, some (13, false)⟩) rfl (fun K hK => ?_) AllReadyH.nil
                go_simp
                (with_reducible refine (HSG'.out _ hS24).mono ?_); rintro e v25 ⟨rfl, hB25⟩; have hS25 := hS24.trans (hB25.mono hS24.size)
                refine hK.out _ _ hS25 (fun _ => ?_)
                clear hK K
                (try simp only [Act.put, List.setIfInBounds_toArray, List.set_cons_zero, List.set_cons_succ])
                refine wpAnyH_take (i := 18) (oi := ⟨some 91, Op.pick (Operand.tmp 86) (Operand.const (Value.bool true)) (Operand.tmp 90), 4, _, _, some (7, true)⟩) (v := ?ve18) rfl (by kernel_rfl) (by kernel_rfl) (by kernel_rfl) (fun _ _ _ h => h) (Or.inl ⟨by rfl, ?he18⟩) hS25 ?re18
                case he18 => (intro wz hSw; go_simp <;> with_reducible rfl)
                (try simp only [Act.put, List.setIfInBounds_toArray, List.set_cons_zero, List.set_cons_succ])
                refine wpAnyH_take (i := 19) (oi := ⟨some 92, Op.pick (Operand.tmp 80) (Operand.tmp 91) (Operand.const (Value.bool false)), 4, _, _, none⟩) (v := ?ve19) rfl (by kernel_rfl) (by kernel_rfl) (by kernel_rfl) (fun _ _ _ h => h) (Or.inl ⟨by rfl, ?he19⟩) hS25 ?re19
                case he19 => (intro wz hSw; go_simp <;> with_reducible rfl)
                (try simp only [Act.put, List.setIfInBounds_toArray, List.set_cons_zero, List.set_cons_succ])
                refine wpAnyH_take (i := 20) (oi := ⟨some 93, Op.move (Operand.tmp 92), 4, _, _, none⟩) (v := ?ve20) rfl (by kernel_rfl) (by kernel_rfl) (by kernel_rfl) (fun _ _ _ h => h) (Or.inl ⟨by rfl, ?he20⟩) hS25 ?re20
                case he20 => (intro wz hSw; go_simp <;> with_reducible rfl)
                (try simp only [Act.put, List.setIfInBounds_toArray, List.set_cons_zero, List.set_cons_succ])
                refine wpAnyH_take (i := 21) (oi := ⟨some 94, Op.move (Operand.tmp 14), 4, _, _, some (20, true)⟩) (v := ?ve21) rfl (by kernel_rfl) (by kernel_rfl) (by kernel_rfl) (fun _ _ _ h => h) (Or.inl ⟨by rfl, ?he21⟩) hS25 ?re21
                case he21 => (intro wz hSw; go_simp <;> with_reducible rfl)
                (try simp only [Act.put, List.setIfInBounds_toArray, List.set_cons_zero, List.set_cons_succ])
                refine wpAnyH_take (i := 22) (oi := ⟨some 95, Op.load 24 (Operand.tmp 4), 24, _, _, some (20, true)⟩) (v := ?ve22) rfl (by kernel_rfl) (by kernel_rfl) (by kernel_rfl) (fun _ _ _ h => h) (Or.inl ⟨by rfl, ?he22⟩) hS25 ?re22
                case he22 => (intro wz hSw; obtain ⟨k0, k1, k2, k3, k4, k5, k6⟩ := (HG9.out.of hSw).cells; obtain ⟨x0, x1, x2⟩ := (HX9.out.of hSw).cells; obtain ⟨y0, y1, y2⟩ := (HY9.out.of hSw).cells; have z0 := (HZ9.out.kept (hSw.block _ HZ9.out.lt)).cell0; have z1 := (HZ9.out.kept (hSw.block _ HZ9.out.lt)).cell1; go_simp <;> with_reducible rfl)
                (try simp only [Act.put, List.setIfInBounds_toArray, List.set_cons_zero, List.set_cons_succ])
                refine wpAnyH_take (i := 23) (oi := ⟨some 96, Op.load 26 (Operand.tmp 5), 26, _, _, some (20, true)⟩) (v := ?ve23) rfl (by kernel_rfl) (by kernel_rfl) (by kernel_rfl) (fun _ _ _ h => h) (Or.inl ⟨by rfl, ?he23⟩) hS25 ?re23
                case he23 => (intro wz hSw; obtain ⟨k0, k1, k2, k3, k4, k5, k6⟩ := (HG9.out.of hSw).cells; obtain ⟨x0, x1, x2⟩ := (HX9.out.of hSw).cells; obtain ⟨y0, y1, y2⟩ := (HY9.out.of hSw).cells; have z0 := (HZ9.out.kept (hSw.block _ HZ9.out.lt)).cell0; have z1 := (HZ9.out.kept (hSw.block _ HZ9.out.lt)).cell1; go_simp <;> with_reducible rfl)
                (try simp only [Act.put, List.setIfInBounds_toArray, List.set_cons_zero, List.set_cons_succ])
                refine wpAnyH_take (i := 24) (oi := ⟨some 97, Op.load 26 (Operand.tmp 6), 26, _, _, some (20, true)⟩) (v := ?ve24) rfl (by kernel_rfl) (by kernel_rfl) (by kernel_rfl) (fun _ _ _ h => h) (Or.inl ⟨by rfl, ?he24⟩) hS25 ?re24
                case he24 => (intro wz hSw; obtain ⟨k0, k1, k2, k3, k4, k5, k6⟩ := (HG9.out.of hSw).cells; obtain ⟨x0, x1, x2⟩ := (HX9.out.of hSw).cells; obtain ⟨y0, y1, y2⟩ := (HY9.out.of hSw).cells; have z0 := (HZ9.out.kept (hSw.block _ HZ9.out.lt)).cell0; have z1 := (HZ9.out.kept (hSw.block _ HZ9.out.lt)).cell1; go_simp <;> with_reducible rfl)
                (try simp only [Act.put, List.setIfInBounds_toArray, List.set_cons_zero, List.set_cons_succ])
                refine wpAnyH_ready (rs := [25]) (by kernel_rfl) (by simp) ?_
                refine AllReadyH.cons (o := ⟨some 98, Op.call { callee := Callee.value (Operand.func 14), args := #[Operand.tmp 95, Operand.tmp 96, Operand.tmp 97], argTypes := #[24, 26, 26] }, 4, _, _, some (20, true)⟩) rfl (fun K hK => ?_) AllReadyH.nil
                go_simp
                (with_reducible refine (HSG'.out _ hS25).mono ?_); rintro e v26 ⟨rfl, hB26⟩; have hS26 := hS25.trans (hB26.mono hS25.size)
                refine hK.out _ _ hS26 (fun _ => ?_)
                clear hK K
                (try simp only [Act.put, List.setIfInBounds_toArray, List.set_cons_zero, List.set_cons_succ])
                refine wpAnyH_take (i := 26) (oi := ⟨some 99, Op.binOp BinOp.neq 4 (Operand.tmp 94) (Operand.tmp 98) 4, 4, _, _, some (20, true)⟩) (v := ?ve26) rfl (by kernel_rfl) (by kernel_rfl) (by kernel_rfl) (fun _ _ _ h => h) (Or.inl ⟨by rfl, ?he26⟩) hS26 ?re26
                case he26 => (intro wz hSw; go_simp <;> with_reducible rfl)
                (try simp only [Act.put, List.setIfInBounds_toArray, List.set_cons_zero, List.set_cons_succ])
                refine wpAnyH_take (i := 27) (oi := ⟨some 100, Op.pick (Operand.tmp 93) (Operand.tmp 99) (Operand.const (Value.bool false)), 4, _, _, none⟩) (v := ?ve27) rfl (by kernel_rfl) (by kernel_rfl) (by kernel_rfl) (fun _ _ _ h => h) (Or.inl ⟨by rfl, ?he27⟩) hS26 ?re27
                case he27 => (intro wz hSw; go_simp <;> with_reducible rfl)
                (try simp only [Act.put, List.setIfInBounds_toArray, List.set_cons_zero, List.set_cons_succ])
                refine wpAnyH_take (i := 28) (oi := ⟨some 101, Op.move (Operand.tmp 100), 4, _, _, none⟩) (v := ?ve28) rfl (by kernel_rfl) (by kernel_rfl) (by kernel_rfl) (fun _ _ _ h => h) (Or.inl ⟨by rfl, ?he28⟩) hS26 ?re28
                case he28 => (intro wz hSw; go_simp <;> with_reducible rfl)
                (try simp only [Act.put, List.setIfInBounds_toArray, List.set_cons_zero, List.set_cons_succ])
                refine wpAnyH_take (i := 29) (oi := ⟨some 102, Op.move (Operand.tmp 14), 4, _, _, some (28, true)⟩) (v := ?ve29) rfl (by kernel_rfl) (by kernel_rfl) (by kernel_rfl) (fun _ _ _ h => h) (Or.inl ⟨by rfl, ?he29⟩) hS26 ?re29
                case he29 => (intro wz hSw; go_simp <;> with_reducible rfl)
                (try simp only [Act.put, List.setIfInBounds_toArray, List.set_cons_zero, List.set_cons_succ])
                refine wpAnyH_take (i := 30) (oi := ⟨some 103, Op.unOp UnOp.not 4 (Operand.tmp 102), 4, _, _, some (28, true)⟩) (v := ?ve30) rfl (by kernel_rfl) (by kernel_rfl) (by kernel_rfl) (fun _ _ _ h => h) (Or.inl ⟨by rfl, ?he30⟩) hS26 ?re30
                case he30 => (intro wz hSw; go_simp <;> with_reducible rfl)
                (try simp only [Act.put, List.setIfInBounds_toArray, List.set_cons_zero, List.set_cons_succ])
                refine wpAnyH_take (i := 31) (oi := ⟨some 104, Op.move (Operand.tmp 103), 4, _, _, some (28, true)⟩) (v := ?ve31) rfl (by kernel_rfl) (by kernel_rfl) (by kernel_rfl) (fun _ _ _ h => h) (Or.inl ⟨by rfl, ?he31⟩) hS26 ?re31
                case he31 => (intro wz hSw; go_simp <;> with_reducible rfl)
                (try simp only [Act.put, List.setIfInBounds_toArray, List.set_cons_zero, List.set_cons_succ])
                refine wpAnyH_take (i := 32) (oi := ⟨some 105, Op.load 24 (Operand.tmp 4), 24, _, _, some (31, false)⟩) (v := undef) rfl (by kernel_rfl) (by kernel_rfl) (by kernel_rfl) (fun _ _ _ h => h) (Or.inr ⟨by rfl, rfl⟩) hS26 ?re32
                (try simp only [Act.put, List.setIfInBounds_toArray, List.set_cons_zero, List.set_cons_succ])
                refine wpAnyH_take (i := 33) (oi := ⟨some 106, Op.load 26 (Operand.tmp 13), 26, _, _, some (31, false)⟩) (v := undef) rfl (by kernel_rfl) (by kernel_rfl) (by kernel_rfl) (fun _ _ _ h => h) (Or.inr ⟨by rfl, rfl⟩) hS26 ?re33
                (try simp only [Act.put, List.setIfInBounds_toArray, List.set_cons_zero, List.set_cons_succ])
                refine wpAnyH_take (i := 34) (oi := ⟨some 107, Op.call { callee := Callee.value (Operand.func 21), args := #[Operand.tmp 105, Operand.tmp 106], argTypes := #[24, 26] }, 4, _, _, some (31, false)⟩) (v := undef) rfl (by kernel_rfl) (by kernel_rfl) (by kernel_rfl) (fun _ _ _ h => h) (Or.inr ⟨by rfl, rfl⟩) hS26 ?re34
                (try simp only [Act.put, List.setIfInBounds_toArray, List.set_cons_zero, List.set_cons_succ])
                refine wpAnyH_take (i := 35) (oi := ⟨some 108, Op.move (Operand.tmp 107), 4, _, _, some (31, false)⟩) (v := undef) rfl (by kernel_rfl) (by kernel_rfl) (by kernel_rfl) (fun _ _ _ h => h) (Or.inr ⟨by rfl, rfl⟩) hS26 ?re35
                (try simp only [Act.put, List.setIfInBounds_toArray, List.set_cons_zero, List.set_cons_succ])
                refine wpAnyH_take (i := 36) (oi := ⟨some 109, Op.load 24 (Operand.tmp 4), 24, _, _, some (35, true)⟩) (v := undef) rfl (by kernel_rfl) (by kernel_rfl) (by kernel_rfl) (fun _ _ _ h => h) (Or.inr ⟨by rfl, rfl⟩) hS26 ?re36
                (try simp only [Act.put, List.setIfInBounds_toArray, List.set_cons_zero, List.set_cons_succ])
                refine wpAnyH_take (i := 37) (oi := ⟨some 110, Op.load 26 (Operand.tmp 5), 26, _, _, some (35, true)⟩) (v := undef) rfl (by kernel_rfl) (by kernel_rfl) (by kernel_rfl) (fun _ _ _ h => h) (Or.inr ⟨by rfl, rfl⟩) hS26 ?re37
                (try simp only [Act.put, List.setIfInBounds_toArray, List.set_cons_zero, List.set_cons_succ])
                refine wpAnyH_take (i := 38) (oi := ⟨some 111, Op.load 26 (Operand.tmp 6), 26, _, _, some (35, true)⟩) (v := undef) rfl (by kernel_rfl) (by kernel_rfl) (by kernel_rfl) (fun _ _ _ h => h) (Or.inr ⟨by rfl, rfl⟩) hS26 ?re38
                (try simp only [Act.put, List.setIfInBounds_toArray, List.set_cons_zero, List.set_cons_succ])
                refine wpAnyH_take (i := 39) (oi := ⟨some 112, Op.call { callee := Callee.value (Operand.func 12), args := #[Operand.tmp 109, Operand.tmp 110, Operand.tmp 111], argTypes := #[24, 26, 26] }, 32, _, _, some (35, true)⟩) (v := undef) rfl (by kernel_rfl) (by kernel_rfl) (by kernel_rfl) (fun _ _ _ h => h) (Or.inr ⟨by rfl, rfl⟩) hS26 ?re39
                (try simp only [Act.put, List.setIfInBounds_toArray, List.set_cons_zero, List.set_cons_succ])
                refine wpAnyH_take (i := 40) (oi := ⟨some 113, Op.load 26 (Operand.tmp 13), 26, _, _, some (35, true)⟩) (v := undef) rfl (by kernel_rfl) (by kernel_rfl) (by kernel_rfl) (fun _ _ _ h => h) (Or.inr ⟨by rfl, rfl⟩) hS26 ?re40
                (try simp only [Act.put, List.setIfInBounds_toArray, List.set_cons_zero, List.set_cons_succ])
                refine wpAnyH_take (i := 41) (oi := ⟨some 114, Op.call { callee := Callee.value (Operand.func 19), args := #[Operand.tmp 112, Operand.tmp 113], argTypes := #[32, 26] }, 4, _, _, some (35, true)⟩) (v := undef) rfl (by kernel_rfl) (by kernel_rfl) (by kernel_rfl) (fun _ _ _ h => h) (Or.inr ⟨by rfl, rfl⟩) hS26 ?re41
                (try simp only [Act.put, List.setIfInBounds_toArray, List.set_cons_zero, List.set_cons_succ])
                refine wpAnyH_take (i := 42) (oi := ⟨some 115, Op.pick (Operand.tmp 108) (Operand.tmp 114) (Operand.const (Value.bool false)), 4, _, _, some (31, false)⟩) (v := undef) rfl (by kernel_rfl) (by kernel_rfl) (by kernel_rfl) (fun _ _ _ h => h) (Or.inr ⟨by rfl, rfl⟩) hS26 ?re42
                (try simp only [Act.put, List.setIfInBounds_toArray, List.set_cons_zero, List.set_cons_succ])
                refine wpAnyH_take (i := 43) (oi := ⟨some 116, Op.move (Operand.tmp 115), 4, _, _, some (31, false)⟩) (v := undef) rfl (by kernel_rfl) (by kernel_rfl) (by kernel_rfl) (fun _ _ _ h => h) (Or.inr ⟨by rfl, rfl⟩) hS26 ?re43
                (try simp only [Act.put, List.setIfInBounds_toArray, List.set_cons_zero, List.set_cons_succ])
                refine wpAnyH_take (i := 44) (oi := ⟨some 117, Op.load 26 (Operand.tmp 13), 26, _, _, some (43, true)⟩) (v := undef) rfl (by kernel_rfl) (by kernel_rfl) (by kernel_rfl) (fun _ _ _ h => h) (Or.inr ⟨by rfl, rfl⟩) hS26 ?re44
                (try simp only [Act.put, List.setIfInBounds_toArray, List.set_cons_zero, List.set_cons_succ])
                refine wpAnyH_take (i := 45) (oi := ⟨some 118, Op.load 26 (Operand.tmp 5), 26, _, _, some (43, true)⟩) (v := undef) rfl (by kernel_rfl) (by kernel_rfl) (by kernel_rfl) (fun _ _ _ h => h) (Or.inr ⟨by rfl, rfl⟩) hS26 ?re45
                (try simp only [Act.put, List.setIfInBounds_toArray, List.set_cons_zero, List.set_cons_succ])
                refine wpAnyH_take (i := 46) (oi := ⟨some 119, Op.binOp BinOp.neq 26 (Operand.tmp 117) (Operand.tmp 118) 26, 4, _, _, some (43, true)⟩) (v := undef) rfl (by kernel_rfl) (by kernel_rfl) (by kernel_rfl) (fun _ _ _ h => h) (Or.inr ⟨by rfl, rfl⟩) hS26 ?re46
                (try simp only [Act.put, List.setIfInBounds_toArray, List.set_cons_zero, List.set_cons_succ])
                refine wpAnyH_take (i := 47) (oi := ⟨some 120, Op.pick (Operand.tmp 116) (Operand.tmp 119) (Operand.const (Value.bool false)), 4, _, _, some (31, false)⟩) (v := undef) rfl (by kernel_rfl) (by kernel_rfl) (by kernel_rfl) (fun _ _ _ h => h) (Or.inr ⟨by rfl, rfl⟩) hS26 ?re47
                (try simp only [Act.put, List.setIfInBounds_toArray, List.set_cons_zero, List.set_cons_succ])
                refine wpAnyH_take (i := 48) (oi := ⟨some 121, Op.move (Operand.tmp 120), 4, _, _, some (31, false)⟩) (v := undef) rfl (by kernel_rfl) (by kernel_rfl) (by kernel_rfl) (fun _ _ _ h => h) (Or.inr ⟨by rfl, rfl⟩) hS26 ?re48
                (try simp only [Act.put, List.setIfInBounds_toArray, List.set_cons_zero, List.set_cons_succ])
                refine wpAnyH_take (i := 49) (oi := ⟨some 122, Op.load 26 (Operand.tmp 13), 26, _, _, some (48, true)⟩) (v := undef) rfl (by kernel_rfl) (by kernel_rfl) (by kernel_rfl) (fun _ _ _ h => h) (Or.inr ⟨by rfl, rfl⟩) hS26 ?re49
                (try simp only [Act.put, List.setIfInBounds_toArray, List.set_cons_zero, List.set_cons_succ])
                refine wpAnyH_take (i := 50) (oi := ⟨some 123, Op.load 26 (Operand.tmp 6), 26, _, _, some (48, true)⟩) (v := undef) rfl (by kernel_rfl) (by kernel_rfl) (by kernel_rfl) (fun _ _ _ h => h) (Or.inr ⟨by rfl, rfl⟩) hS26 ?re50
                (try simp only [Act.put, List.setIfInBounds_toArray, List.set_cons_zero, List.set_cons_succ])
                refine wpAnyH_take (i := 51) (oi := ⟨some 124, Op.binOp BinOp.neq 26 (Operand.tmp 122) (Operand.tmp 123) 26, 4, _, _, some (48, true)⟩) (v := undef) rfl (by kernel_rfl) (by kernel_rfl) (by kernel_rfl) (fun _ _ _ h => h) (Or.inr ⟨by rfl, rfl⟩) hS26 ?re51
                (try simp only [Act.put, List.setIfInBounds_toArray, List.set_cons_zero, List.set_cons_succ])
                refine wpAnyH_take (i := 52) (oi := ⟨some 125, Op.pick (Operand.tmp 121) (Operand.tmp 124) (Operand.const (Value.bool false)), 4, _, _, some (31, false)⟩) (v := undef) rfl (by kernel_rfl) (by kernel_rfl) (by kernel_rfl) (fun _ _ _ h => h) (Or.inr ⟨by rfl, rfl⟩) hS26 ?re52
                (try simp only [Act.put, List.setIfInBounds_toArray, List.set_cons_zero, List.set_cons_succ])
                refine wpAnyH_take (i := 53) (oi := ⟨some 126, Op.pick (Operand.tmp 104) (Operand.const (Value.bool true)) (Operand.tmp 125), 4, _, _, some (28, true)⟩) (v := ?ve53) rfl (by kernel_rfl) (by kernel_rfl) (by kernel_rfl) (fun _ _ _ h => h) (Or.inl ⟨by rfl, ?he53⟩) hS26 ?re53
                case he53 => (intro wz hSw; go_simp <;> with_reducible rfl)
                (try simp only [Act.put, List.setIfInBounds_toArray, List.set_cons_zero, List.set_cons_succ])
                refine wpAnyH_take (i := 54) (oi := ⟨some 127, Op.pick (Operand.tmp 101) (Operand.tmp 126) (Operand.const (Value.bool false)), 4, _, _, none⟩) (v := ?ve54) rfl (by kernel_rfl) (by kernel_rfl) (by kernel_rfl) (fun _ _ _ h => h) (Or.inl ⟨by rfl, ?he54⟩) hS26 ?re54
                case he54 => (intro wz hSw; go_simp <;> with_reducible rfl)
                (try simp only [Act.put, List.setIfInBounds_toArray, List.set_cons_zero, List.set_cons_succ])
                refine wpAnyH_take (i := 55) (oi := ⟨some 128, Op.move (Operand.tmp 127), 4, _, _, none⟩) (v := ?ve55) rfl (by kernel_rfl) (by kernel_rfl) (by kernel_rfl) (fun _ _ _ h => h) (Or.inl ⟨by rfl, ?he55⟩) hS26 ?re55
                case he55 => (intro wz hSw; go_simp <;> with_reducible rfl)
                (try simp only [Act.put, List.setIfInBounds_toArray, List.set_cons_zero, List.set_cons_succ])
                refine wpAnyH_take (i := 56) (oi := ⟨some 129, Op.load 24 (Operand.tmp 4), 24, _, _, some (55, true)⟩) (v := ?ve56) rfl (by kernel_rfl) (by kernel_rfl) (by kernel_rfl) (fun _ _ _ h => h) (Or.inl ⟨by rfl, ?he56⟩) hS26 ?re56
                case he56 => (intro wz hSw; obtain ⟨k0, k1, k2, k3, k4, k5, k6⟩ := (HG9.out.of hSw).cells; obtain ⟨x0, x1, x2⟩ := (HX9.out.of hSw).cells; obtain ⟨y0, y1, y2⟩ := (HY9.out.of hSw).cells; have z0 := (HZ9.out.kept (hSw.block _ HZ9.out.lt)).cell0; have z1 := (HZ9.out.kept (hSw.block _ HZ9.out.lt)).cell1; go_simp <;> with_reducible rfl)
                (try simp only [Act.put, List.setIfInBounds_toArray, List.set_cons_zero, List.set_cons_succ])
                refine wpAnyH_take (i := 57) (oi := ⟨some 130, Op.load 26 (Operand.tmp 5), 26, _, _, some (55, true)⟩) (v := ?ve57) rfl (by kernel_rfl) (by kernel_rfl) (by kernel_rfl) (fun _ _ _ h => h) (Or.inl ⟨by rfl, ?he57⟩) hS26 ?re57
                case he57 => (intro wz hSw; obtain ⟨k0, k1, k2, k3, k4, k5, k6⟩ := (HG9.out.of hSw).cells; obtain ⟨x0, x1, x2⟩ := (HX9.out.of hSw).cells; obtain ⟨y0, y1, y2⟩ := (HY9.out.of hSw).cells; have z0 := (HZ9.out.kept (hSw.block _ HZ9.out.lt)).cell0; have z1 := (HZ9.out.kept (hSw.block _ HZ9.out.lt)).cell1; go_simp <;> with_reducible rfl)
                (try simp only [Act.put, List.setIfInBounds_toArray, List.set_cons_zero, List.set_cons_succ])
                refine wpAnyH_take (i := 58) (oi := ⟨some 131, Op.load 26 (Operand.tmp 5), 26, _, _, some (55, true)⟩) (v := ?ve58) rfl (by kernel_rfl) (by kernel_rfl) (by kernel_rfl) (fun _ _ _ h => h) (Or.inl ⟨by rfl, ?he58⟩) hS26 ?re58
                case he58 => (intro wz hSw; obtain ⟨k0, k1, k2, k3, k4, k5, k6⟩ := (HG9.out.of hSw).cells; obtain ⟨x0, x1, x2⟩ := (HX9.out.of hSw).cells; obtain ⟨y0, y1, y2⟩ := (HY9.out.of hSw).cells; have z0 := (HZ9.out.kept (hSw.block _ HZ9.out.lt)).cell0; have z1 := (HZ9.out.kept (hSw.block _ HZ9.out.lt)).cell1; go_simp <;> with_reducible rfl)
                (try simp only [Act.put, List.setIfInBounds_toArray, List.set_cons_zero, List.set_cons_succ])
                refine wpAnyH_ready (rs := [59]) (by kernel_rfl) (by simp) ?_
                refine AllReadyH.cons (o := ⟨some 132, Op.call { callee := Callee.value (Operand.func 14), args := #[Operand.tmp 129, Operand.tmp 130, Operand.tmp 131], argTypes := #[24, 26, 26] }, 4, _, _, some (55, true)⟩) rfl (fun K hK => ?_) AllReadyH.nil
                go_simp
                (with_reducible refine (HSA.out _ hS26).mono ?_); rintro e v27 ⟨rfl, hB27⟩; have hS27 := hS26.trans (hB27.mono hS26.size)
                refine hK.out _ _ hS27 (fun _ => ?_)
                clear hK K
                (try simp only [Act.put, List.setIfInBounds_toArray, List.set_cons_zero, List.set_cons_succ])
                refine wpAnyH_take (i := 60) (oi := ⟨some 133, Op.pick (Operand.tmp 128) (Operand.tmp 132) (Operand.const (Value.bool false)), 4, _, _, none⟩) (v := ?ve60) rfl (by kernel_rfl) (by kernel_rfl) (by kernel_rfl) (fun _ _ _ h => h) (Or.inl ⟨by rfl, ?he60⟩) hS27 ?re60
                case he60 => (intro wz hSw; go_simp <;> with_reducible rfl)
                (try simp only [Act.put, List.setIfInBounds_toArray, List.set_cons_zero, List.set_cons_succ])
                refine wpAnyH_take (i := 61) (oi := ⟨some 8, Op.assign (Operand.tmp 133), 4, _, _, none⟩) (v := ?ve61) rfl (by kernel_rfl) (by kernel_rfl) (by kernel_rfl) (fun _ _ _ h => h) (Or.inl ⟨by rfl, ?he61⟩) hS27 ?re61
                case he61 => (intro wz hSw; go_simp <;> with_reducible rfl)
                (try simp only [Act.put, List.setIfInBounds_toArray, List.set_cons_zero, List.set_cons_succ])
                refine wpAnyH_done (by kernel_rfl) ?_ _
                refine NoPanic.normal ?_
                have hfin := HB9W.out.trans (hS27.mono HB9W.out.size)
                go_wp2
                go_ret
                exact ⟨rfl, hfin⟩
            | true =>
              have hsM : sM = false := by
                cases hq : sM with
                | false => rfl
                | true => have := HSM0.out hq; cases this
              subst hsM
              have HSG' : Hid (∀ V : World, Below w9.heap.size w9 V → Calls Try.prog 14 #[gv gw gh (some ⟨b0, off0, none⟩) n c, pv ax ay, pv bx by'] V fun e w' => e = .returned (.bool false) ∧ Below V.heap.size V w') := HSG
              clear HSG
              obtain ⟨hwl, hhs, hna, hnb⟩ := hfa1.out rfl
              have HWL : Hid (∀ V : World, Below w9.heap.size w9 V → Calls Try.prog 21 #[gv gw gh (some ⟨b0, off0, none⟩) n c, pv px py] V fun e w' => e = .returned (.bool true) ∧ Below V.heap.size V w') := Lib.hid (fun V h => by
                have := wall_any gw gh (some ⟨b0, off0, none⟩) l c px py V V.heap.size (rb_at HRW.out (HB9W.out.trans (h.mono HB9W.out.size))) (Nat.le_refl _)
                rwa [hwl, HN.out] at this)
              obtain ⟨L, hL⟩ : ∃ L, lineG gw gh l.length ax ay bx by' = L := ⟨_, rfl⟩
              obtain ⟨k1, hk1⟩ : ∃ k1, L.length = k1 := ⟨_, rfl⟩
              have hfewL : (L.length : Int) ≤ 70000 := by have := lineG_few (W := gw) (H := gh) (n := l.length) (ax := ax) (ay := ay) (bx := bx) (by' := by'); rw [hL] at this; omega
              have HLN : Hid (∀ V : World, Calls Try.prog 12 #[gv gw gh (some ⟨b0, off0, none⟩) n c, pv ax ay, pv bx by'] V fun e w' => (∃ A c, e = .returned (.slice A k1 c) ∧ RT w' w'.heap.size A L) ∧ Below V.heap.size V w') := Lib.hid (fun V => by
                refine (Line_any gw gh (some ⟨b0, off0, none⟩) n c ax ay bx by' V).mono fun e' w' h => ?_
                rw [← HN.out, hL] at h
                obtain ⟨⟨v, he, hrow, _⟩, hbl⟩ := h
                obtain ⟨A1, c1, hv, hrt, _⟩ := OwnT.shape (w := w') (v := v) (l := L) hrow
                exact ⟨⟨A1, c1, by rw [he, hv, hk1], hrt⟩, hbl⟩)
              have HHS : Hid (∀ (V : World) (A1 : Option Addr) (c1 : Nat), RT V V.heap.size A1 L → Calls Try.prog 19 #[.slice A1 k1 c1, pv px py] V fun e w' => e = .returned (.bool true) ∧ Below V.heap.size V w') := Lib.hid (fun V A1 c1 h => by
                have := has_any (c := c1) px py h (Nat.le_refl _) hfewL
                rwa [hk1, ← hL, hhs] at this)
              clear hwl hhs hL hk1 hfewL hfa1
              by_cases qa : px = ax
              · have qa2 : py ≠ ay := fun h => hna ⟨qa, h⟩
                have r1 : (px == ax) = true := by simpa using qa
                have r2 : (py == ay) = false := by simpa using qa2
                clear qa qa2 hna
                by_cases qb : px = bx
                · have qb2 : py ≠ by' := fun h => hnb ⟨qb, h⟩
                  have r3 : (px == bx) = true := by simpa using qb
                  have r4 : (py == by') = false := by simpa using qb2
                  clear qb qb2 hnb
                  refine wp_region_noPanic ?_
                  refine wp_region_held_drew (S := fun w' => Below w9.heap.size w9 w') (by kernel_rfl) hS0 (fun _ => ?_)
                  refine wpAnyH_take (i := 0) (oi := ⟨some 73, Op.move (Operand.tmp 9), 4, _, _, none⟩) (v := ?vf00) rfl (by kernel_rfl) (by kernel_rfl) (by kernel_rfl) (fun _ _ _ h => h) (Or.inl ⟨by rfl, ?hf00⟩) hS0 ?rf00
                  case hf00 => (intro wz hSw; go_simp <;> with_reducible rfl)
                  (try simp only [Act.put, List.setIfInBounds_toArray, List.set_cons_zero, List.set_cons_succ])
                  refine wpAnyH_take (i := 1) (oi := ⟨some 74, Op.move (Operand.tmp 73), 4, _, _, none⟩) (v := ?vf01) rfl (by kernel_rfl) (by kernel_rfl) (by kernel_rfl) (fun _ _ _ h => h) (Or.inl ⟨by rfl, ?hf01⟩) hS0 ?rf01
                  case hf01 => (intro wz hSw; go_simp <;> with_reducible rfl)
                  (try simp only [Act.put, List.setIfInBounds_toArray, List.set_cons_zero, List.set_cons_succ])
                  refine wpAnyH_take (i := 2) (oi := ⟨some 75, Op.load 24 (Operand.tmp 11), 24, _, _, some (1, true)⟩) (v := ?vf02) rfl (by kernel_rfl) (by kernel_rfl) (by kernel_rfl) (fun _ _ _ h => h) (Or.inl ⟨by rfl, ?hf02⟩) hS0 ?rf02
                  case hf02 => (intro wz hSw; obtain ⟨k0, k1, k2, k3, k4, k5, k6⟩ := (HG9.out.of hSw).cells; obtain ⟨x0, x1, x2⟩ := (HX9.out.of hSw).cells; obtain ⟨y0, y1, y2⟩ := (HY9.out.of hSw).cells; have z0 := (HZ9.out.kept (hSw.block _ HZ9.out.lt)).cell0; have z1 := (HZ9.out.kept (hSw.block _ HZ9.out.lt)).cell1; go_simp <;> with_reducible rfl)
                  (try simp only [Act.put, List.setIfInBounds_toArray, List.set_cons_zero, List.set_cons_succ])
                  refine wpAnyH_take (i := 3) (oi := ⟨some 76, Op.load 26 (Operand.tmp 5), 26, _, _, some (1, true)⟩) (v := ?vf03) rfl (by kernel_rfl) (by kernel_rfl) (by kernel_rfl) (fun _ _ _ h => h) (Or.inl ⟨by rfl, ?hf03⟩) hS0 ?rf03
                  case hf03 => (intro wz hSw; obtain ⟨k0, k1, k2, k3, k4, k5, k6⟩ := (HG9.out.of hSw).cells; obtain ⟨x0, x1, x2⟩ := (HX9.out.of hSw).cells; obtain ⟨y0, y1, y2⟩ := (HY9.out.of hSw).cells; have z0 := (HZ9.out.kept (hSw.block _ HZ9.out.lt)).cell0; have z1 := (HZ9.out.kept (hSw.block _ HZ9.out.lt)).cell1; go_simp <;> with_reducible rfl)
                  (try simp only [Act.put, List.setIfInBounds_toArray, List.set_cons_zero, List.set_cons_succ])
                  refine wpAnyH_take (i := 4) (oi := ⟨some 77, Op.load 26 (Operand.tmp 6), 26, _, _, some (1, true)⟩) (v := ?vf04) rfl (by kernel_rfl) (by kernel_rfl) (by kernel_rfl) (fun _ _ _ h => h) (Or.inl ⟨by rfl, ?hf04⟩) hS0 ?rf04
                  case hf04 => (intro wz hSw; obtain ⟨k0, k1, k2, k3, k4, k5, k6⟩ := (HG9.out.of hSw).cells; obtain ⟨x0, x1, x2⟩ := (HX9.out.of hSw).cells; obtain ⟨y0, y1, y2⟩ := (HY9.out.of hSw).cells; have z0 := (HZ9.out.kept (hSw.block _ HZ9.out.lt)).cell0; have z1 := (HZ9.out.kept (hSw.block _ HZ9.out.lt)).cell1; go_simp <;> with_reducible rfl)
                  (try simp only [Act.put, List.setIfInBounds_toArray, List.set_cons_zero, List.set_cons_succ])
                  refine wpAnyH_ready (rs := [5]) (by kernel_rfl) (by simp) ?_
                  refine AllReadyH.cons (o := ⟨some 78, Op.call { callee := Callee.value (Operand.func 14), args := #[Operand.tmp 75, Operand.tmp 76, Operand.tmp 77], argTypes := #[24, 26, 26] }, 4, _, _, some (1, true)⟩) rfl (fun K hK => ?_) AllReadyH.nil
                  go_simp
                  (with_reducible refine (HSO.out _ hS0).mono ?_); rintro e v28 ⟨rfl, hB28⟩; have hS28 := hS0.trans (hB28.mono hS0.size)
                  refine hK.out _ _ hS28 (fun _ => ?_)
                  clear hK K
                  (try simp only [Act.put, List.setIfInBounds_toArray, List.set_cons_zero, List.set_cons_succ])
                  refine wpAnyH_take (i := 6) (oi := ⟨some 79, Op.pick (Operand.tmp 74) (Operand.tmp 78) (Operand.const (Value.bool false)), 4, _, _, none⟩) (v := ?vf06) rfl (by kernel_rfl) (by kernel_rfl) (by kernel_rfl) (fun _ _ _ h => h) (Or.inl ⟨by rfl, ?hf06⟩) hS28 ?rf06
                  case hf06 => (intro wz hSw; go_simp <;> with_reducible rfl)
                  (try simp only [Act.put, List.setIfInBounds_toArray, List.set_cons_zero, List.set_cons_succ])
                  refine wpAnyH_take (i := 7) (oi := ⟨some 80, Op.move (Operand.tmp 79), 4, _, _, none⟩) (v := ?vf07) rfl (by kernel_rfl) (by kernel_rfl) (by kernel_rfl) (fun _ _ _ h => h) (Or.inl ⟨by rfl, ?hf07⟩) hS28 ?rf07
                  case hf07 => (intro wz hSw; go_simp <;> with_reducible rfl)
                  (try simp only [Act.put, List.setIfInBounds_toArray, List.set_cons_zero, List.set_cons_succ])
                  refine wpAnyH_take (i := 8) (oi := ⟨some 81, Op.load 24 (Operand.tmp 12), 24, _, _, some (7, true)⟩) (v := ?vf08) rfl (by kernel_rfl) (by kernel_rfl) (by kernel_rfl) (fun _ _ _ h => h) (Or.inl ⟨by rfl, ?hf08⟩) hS28 ?rf08
                  case hf08 => (intro wz hSw; obtain ⟨k0, k1, k2, k3, k4, k5, k6⟩ := (HG9.out.of hSw).cells; obtain ⟨x0, x1, x2⟩ := (HX9.out.of hSw).cells; obtain ⟨y0, y1, y2⟩ := (HY9.out.of hSw).cells; have z0 := (HZ9.out.kept (hSw.block _ HZ9.out.lt)).cell0; have z1 := (HZ9.out.kept (hSw.block _ HZ9.out.lt)).cell1; go_simp <;> with_reducible rfl)
                  (try simp only [Act.put, List.setIfInBounds_toArray, List.set_cons_zero, List.set_cons_succ])
                  refine wpAnyH_take (i := 9) (oi := ⟨some 82, Op.load 26 (Operand.tmp 5), 26, _, _, some (7, true)⟩) (v := ?vf09) rfl (by kernel_rfl) (by kernel_rfl) (by kernel_rfl) (fun _ _ _ h => h) (Or.inl ⟨by rfl, ?hf09⟩) hS28 ?rf09
                  case hf09 => (intro wz hSw; obtain ⟨k0, k1, k2, k3, k4, k5, k6⟩ := (HG9.out.of hSw).cells; obtain ⟨x0, x1, x2⟩ := (HX9.out.of hSw).cells; obtain ⟨y0, y1, y2⟩ := (HY9.out.of hSw).cells; have z0 := (HZ9.out.kept (hSw.block _ HZ9.out.lt)).cell0; have z1 := (HZ9.out.kept (hSw.block _ HZ9.out.lt)).cell1; go_simp <;> with_reducible rfl)
                  (try simp only [Act.put, List.setIfInBounds_toArray, List.set_cons_zero, List.set_cons_succ])
                  refine wpAnyH_take (i := 10) (oi := ⟨some 83, Op.load 26 (Operand.tmp 6), 26, _, _, some (7, true)⟩) (v := ?vf010) rfl (by kernel_rfl) (by kernel_rfl) (by kernel_rfl) (fun _ _ _ h => h) (Or.inl ⟨by rfl, ?hf010⟩) hS28 ?rf010
                  case hf010 => (intro wz hSw; obtain ⟨k0, k1, k2, k3, k4, k5, k6⟩ := (HG9.out.of hSw).cells; obtain ⟨x0, x1, x2⟩ := (HX9.out.of hSw).cells; obtain ⟨y0, y1, y2⟩ := (HY9.out.of hSw).cells; have z0 := (HZ9.out.kept (hSw.block _ HZ9.out.lt)).cell0; have z1 := (HZ9.out.kept (hSw.block _ HZ9.out.lt)).cell1; go_simp <;> with_reducible rfl)
                  (try simp only [Act.put, List.setIfInBounds_toArray, List.set_cons_zero, List.set_cons_succ])
                  refine wpAnyH_ready (rs := [11]) (by kernel_rfl) (by simp) ?_
                  refine AllReadyH.cons (o := ⟨some 84, Op.call { callee := Callee.value (Operand.func 14), args := #[Operand.tmp 81, Operand.tmp 82, Operand.tmp 83], argTypes := #[24, 26, 26] }, 4, _, _, some (7, true)⟩) rfl (fun K hK => ?_) AllReadyH.nil
                  go_simp
                  (with_reducible refine (HSM.out _ hS28).mono ?_); rintro e v29 ⟨rfl, hB29⟩; have hS29 := hS28.trans (hB29.mono hS28.size)
                  refine hK.out _ _ hS29 (fun _ => ?_)
                  clear hK K
                  (try simp only [Act.put, List.setIfInBounds_toArray, List.set_cons_zero, List.set_cons_succ])
                  refine wpAnyH_take (i := 12) (oi := ⟨some 85, Op.unOp UnOp.not 4 (Operand.tmp 84), 4, _, _, some (7, true)⟩) (v := ?vf012) rfl (by kernel_rfl) (by kernel_rfl) (by kernel_rfl) (fun _ _ _ h => h) (Or.inl ⟨by rfl, ?hf012⟩) hS29 ?rf012
                  case hf012 => (intro wz hSw; go_simp <;> with_reducible rfl)
                  (try simp only [Act.put, List.setIfInBounds_toArray, List.set_cons_zero, List.set_cons_succ])
                  refine wpAnyH_take (i := 13) (oi := ⟨some 86, Op.move (Operand.tmp 85), 4, _, _, some (7, true)⟩) (v := ?vf013) rfl (by kernel_rfl) (by kernel_rfl) (by kernel_rfl) (fun _ _ _ h => h) (Or.inl ⟨by rfl, ?hf013⟩) hS29 ?rf013
                  case hf013 => (intro wz hSw; go_simp <;> with_reducible rfl)
                  (try simp only [Act.put, List.setIfInBounds_toArray, List.set_cons_zero, List.set_cons_succ])
                  refine wpAnyH_take (i := 14) (oi := ⟨some 87, Op.load 24 (Operand.tmp 4), 24, _, _, some (13, false)⟩) (v := undef) rfl (by kernel_rfl) (by kernel_rfl) (by kernel_rfl) (fun _ _ _ h => h) (Or.inr ⟨by rfl, rfl⟩) hS29 ?rf014
                  (try simp only [Act.put, List.setIfInBounds_toArray, List.set_cons_zero, List.set_cons_succ])
                  refine wpAnyH_take (i := 15) (oi := ⟨some 88, Op.load 26 (Operand.tmp 5), 26, _, _, some (13, false)⟩) (v := undef) rfl (by kernel_rfl) (by kernel_rfl) (by kernel_rfl) (fun _ _ _ h => h) (Or.inr ⟨by rfl, rfl⟩) hS29 ?rf015
                  (try simp only [Act.put, List.setIfInBounds_toArray, List.set_cons_zero, List.set_cons_succ])
                  refine wpAnyH_take (i := 16) (oi := ⟨some 89, Op.load 26 (Operand.tmp 6), 26, _, _, some (13, false)⟩) (v := undef) rfl (by kernel_rfl) (by kernel_rfl) (by kernel_rfl) (fun _ _ _ h => h) (Or.inr ⟨by rfl, rfl⟩) hS29 ?rf016
                  (try simp only [Act.put, List.setIfInBounds_toArray, List.set_cons_zero, List.set_cons_succ])
                  refine wpAnyH_take (i := 17) (oi := ⟨some 90, Op.call { callee := Callee.value (Operand.func 14), args := #[Operand.tmp 87, Operand.tmp 88, Operand.tmp 89], argTypes := #[24, 26, 26] }, 4, _, _, some (13, false)⟩) (v := undef) rfl (by kernel_rfl) (by kernel_rfl) (by kernel_rfl) (fun _ _ _ h => h) (Or.inr ⟨by rfl, rfl⟩) hS29 ?rf017
                  (try simp only [Act.put, List.setIfInBounds_toArray, List.set_cons_zero, List.set_cons_succ])
                  refine wpAnyH_take (i := 18) (oi := ⟨some 91, Op.pick (Operand.tmp 86) (Operand.const (Value.bool true)) (Operand.tmp 90), 4, _, _, some (7, true)⟩) (v := ?vf018) rfl (by kernel_rfl) (by kernel_rfl) (by kernel_rfl) (fun _ _ _ h => h) (Or.inl ⟨by rfl, ?hf018⟩) hS29 ?rf018
                  case hf018 => (intro wz hSw; go_simp <;> with_reducible rfl)
                  (try simp only [Act.put, List.setIfInBounds_toArray, List.set_cons_zero, List.set_cons_succ])
                  refine wpAnyH_take (i := 19) (oi := ⟨some 92, Op.pick (Operand.tmp 80) (Operand.tmp 91) (Operand.const (Value.bool false)), 4, _, _, none⟩) (v := ?vf019) rfl (by kernel_rfl) (by kernel_rfl) (by kernel_rfl) (fun _ _ _ h => h) (Or.inl ⟨by rfl, ?hf019⟩) hS29 ?rf019
                  case hf019 => (intro wz hSw; go_simp <;> with_reducible rfl)
                  (try simp only [Act.put, List.setIfInBounds_toArray, List.set_cons_zero, List.set_cons_succ])
                  refine wpAnyH_take (i := 20) (oi := ⟨some 93, Op.move (Operand.tmp 92), 4, _, _, none⟩) (v := ?vf020) rfl (by kernel_rfl) (by kernel_rfl) (by kernel_rfl) (fun _ _ _ h => h) (Or.inl ⟨by rfl, ?hf020⟩) hS29 ?rf020
                  case hf020 => (intro wz hSw; go_simp <;> with_reducible rfl)
                  (try simp only [Act.put, List.setIfInBounds_toArray, List.set_cons_zero, List.set_cons_succ])
                  refine wpAnyH_take (i := 21) (oi := ⟨some 94, Op.move (Operand.tmp 14), 4, _, _, some (20, true)⟩) (v := ?vf021) rfl (by kernel_rfl) (by kernel_rfl) (by kernel_rfl) (fun _ _ _ h => h) (Or.inl ⟨by rfl, ?hf021⟩) hS29 ?rf021
                  case hf021 => (intro wz hSw; go_simp <;> with_reducible rfl)
                  (try simp only [Act.put, List.setIfInBounds_toArray, List.set_cons_zero, List.set_cons_succ])
                  refine wpAnyH_take (i := 22) (oi := ⟨some 95, Op.load 24 (Operand.tmp 4), 24, _, _, some (20, true)⟩) (v := ?vf022) rfl (by kernel_rfl) (by kernel_rfl) (by kernel_rfl) (fun _ _ _ h => h) (Or.inl ⟨by rfl, ?hf022⟩) hS29 ?rf022
                  case hf022 => (intro wz hSw; obtain ⟨k0, k1, k2, k3, k4, k5, k6⟩ := (HG9.out.of hSw).cells; obtain ⟨x0, x1, x2⟩ := (HX9.out.of hSw).cells; obtain ⟨y0, y1, y2⟩ := (HY9.out.of hSw).cells; have z0 := (HZ9.out.kept (hSw.block _ HZ9.out.lt)).cell0; have z1 := (HZ9.out.kept (hSw.block _ HZ9.out.lt)).cell1; go_simp <;> with_reducible rfl)
                  (try simp only [Act.put, List.setIfInBounds_toArray, List.set_cons_zero, List.set_cons_succ])
                  refine wpAnyH_take (i := 23) (oi := ⟨some 96, Op.load 26 (Operand.tmp 5), 26, _, _, some (20, true)⟩) (v := ?vf023) rfl (by kernel_rfl) (by kernel_rfl) (by kernel_rfl) (fun _ _ _ h => h) (Or.inl ⟨by rfl, ?hf023⟩) hS29 ?rf023
                  case hf023 => (intro wz hSw; obtain ⟨k0, k1, k2, k3, k4, k5, k6⟩ := (HG9.out.of hSw).cells; obtain ⟨x0, x1, x2⟩ := (HX9.out.of hSw).cells; obtain ⟨y0, y1, y2⟩ := (HY9.out.of hSw).cells; have z0 := (HZ9.out.kept (hSw.block _ HZ9.out.lt)).cell0; have z1 := (HZ9.out.kept (hSw.block _ HZ9.out.lt)).cell1; go_simp <;> with_reducible rfl)
                  (try simp only [Act.put, List.setIfInBounds_toArray, List.set_cons_zero, List.set_cons_succ])
                  refine wpAnyH_take (i := 24) (oi := ⟨some 97, Op.load 26 (Operand.tmp 6), 26, _, _, some (20, true)⟩) (v := ?vf024) rfl (by kernel_rfl) (by kernel_rfl) (by kernel_rfl) (fun _ _ _ h => h) (Or.inl ⟨by rfl, ?hf024⟩) hS29 ?rf024
                  case hf024 => (intro wz hSw; obtain ⟨k0, k1, k2, k3, k4, k5, k6⟩ := (HG9.out.of hSw).cells; obtain ⟨x0, x1, x2⟩ := (HX9.out.of hSw).cells; obtain ⟨y0, y1, y2⟩ := (HY9.out.of hSw).cells; have z0 := (HZ9.out.kept (hSw.block _ HZ9.out.lt)).cell0; have z1 := (HZ9.out.kept (hSw.block _ HZ9.out.lt)).cell1; go_simp <;> with_reducible rfl)
                  (try simp only [Act.put, List.setIfInBounds_toArray, List.set_cons_zero, List.set_cons_succ])
                  refine wpAnyH_ready (rs := [25]) (by kernel_rfl) (by simp) ?_
                  refine AllReadyH.cons (o := ⟨some 98, Op.call { callee := Callee.value (Operand.func 14), args := #[Operand.tmp 95, Operand.tmp 96, Operand.tmp 97], argTypes := #[24, 26, 26] }, 4, _, _, some (20, true)⟩) rfl (fun K hK => ?_) AllReadyH.nil
                  go_simp
                  (with_reducible refine (HSG'.out _ hS29).mono ?_); rintro e v30 ⟨rfl, hB30⟩; have hS30 := hS29.trans (hB30.mono hS29.size)
                  refine hK.out _ _ hS30 (fun _ => ?_)
                  clear hK K
                  (try simp only [Act.put, List.setIfInBounds_toArray, List.set_cons_zero, List.set_cons_succ])
                  refine wpAnyH_take (i := 26) (oi := ⟨some 99, Op.binOp BinOp.neq 4 (Operand.tmp 94) (Operand.tmp 98) 4, 4, _, _, some (20, true)⟩) (v := ?vf026) rfl (by kernel_rfl) (by kernel_rfl) (by kernel_rfl) (fun _ _ _ h => h) (Or.inl ⟨by rfl, ?hf026⟩) hS30 ?rf026
                  case hf026 => (intro wz hSw; go_simp <;> with_reducible rfl)
                  (try simp only [Act.put, List.setIfInBounds_toArray, List.set_cons_zero, List.set_cons_succ])
                  refine wpAnyH_take (i := 27) (oi := ⟨some 100, Op.pick (Operand.tmp 93) (Operand.tmp 99) (Operand.const (Value.bool false)), 4, _, _, none⟩) (v := ?vf027) rfl (by kernel_rfl) (by kernel_rfl) (by kernel_rfl) (fun _ _ _ h => h) (Or.inl ⟨by rfl, ?hf027⟩) hS30 ?rf027
                  case hf027 => (intro wz hSw; go_simp <;> with_reducible rfl)
                  (try simp only [Act.put, List.setIfInBounds_toArray, List.set_cons_zero, List.set_cons_succ])
                  refine wpAnyH_take (i := 28) (oi := ⟨some 101, Op.move (Operand.tmp 100), 4, _, _, none⟩) (v := ?vf028) rfl (by kernel_rfl) (by kernel_rfl) (by kernel_rfl) (fun _ _ _ h => h) (Or.inl ⟨by rfl, ?hf028⟩) hS30 ?rf028
                  case hf028 => (intro wz hSw; go_simp <;> with_reducible rfl)
                  (try simp only [Act.put, List.setIfInBounds_toArray, List.set_cons_zero, List.set_cons_succ])
                  refine wpAnyH_take (i := 29) (oi := ⟨some 102, Op.move (Operand.tmp 14), 4, _, _, some (28, true)⟩) (v := ?vf029) rfl (by kernel_rfl) (by kernel_rfl) (by kernel_rfl) (fun _ _ _ h => h) (Or.inl ⟨by rfl, ?hf029⟩) hS30 ?rf029
                  case hf029 => (intro wz hSw; go_simp <;> with_reducible rfl)
                  (try simp only [Act.put, List.setIfInBounds_toArray, List.set_cons_zero, List.set_cons_succ])
                  refine wpAnyH_take (i := 30) (oi := ⟨some 103, Op.unOp UnOp.not 4 (Operand.tmp 102), 4, _, _, some (28, true)⟩) (v := ?vf030) rfl (by kernel_rfl) (by kernel_rfl) (by kernel_rfl) (fun _ _ _ h => h) (Or.inl ⟨by rfl, ?hf030⟩) hS30 ?rf030
                  case hf030 => (intro wz hSw; go_simp <;> with_reducible rfl)
                  (try simp only [Act.put, List.setIfInBounds_toArray, List.set_cons_zero, List.set_cons_succ])
                  refine wpAnyH_take (i := 31) (oi := ⟨some 104, Op.move (Operand.tmp 103), 4, _, _, some (28, true)⟩) (v := ?vf031) rfl (by kernel_rfl) (by kernel_rfl) (by kernel_rfl) (fun _ _ _ h => h) (Or.inl ⟨by rfl, ?hf031⟩) hS30 ?rf031
                  case hf031 => (intro wz hSw; go_simp <;> with_reducible rfl)
                  (try simp only [Act.put, List.setIfInBounds_toArray, List.set_cons_zero, List.set_cons_succ])
                  refine wpAnyH_take (i := 32) (oi := ⟨some 105, Op.load 24 (Operand.tmp 4), 24, _, _, some (31, false)⟩) (v := ?vf032) rfl (by kernel_rfl) (by kernel_rfl) (by kernel_rfl) (fun _ _ _ h => h) (Or.inl ⟨by rfl, ?hf032⟩) hS30 ?rf032
                  case hf032 => (intro wz hSw; obtain ⟨k0, k1, k2, k3, k4, k5, k6⟩ := (HG9.out.of hSw).cells; obtain ⟨x0, x1, x2⟩ := (HX9.out.of hSw).cells; obtain ⟨y0, y1, y2⟩ := (HY9.out.of hSw).cells; have z0 := (HZ9.out.kept (hSw.block _ HZ9.out.lt)).cell0; have z1 := (HZ9.out.kept (hSw.block _ HZ9.out.lt)).cell1; go_simp <;> with_reducible rfl)
                  (try simp only [Act.put, List.setIfInBounds_toArray, List.set_cons_zero, List.set_cons_succ])
                  refine wpAnyH_take (i := 33) (oi := ⟨some 106, Op.load 26 (Operand.tmp 13), 26, _, _, some (31, false)⟩) (v := ?vf033) rfl (by kernel_rfl) (by kernel_rfl) (by kernel_rfl) (fun _ _ _ h => h) (Or.inl ⟨by rfl, ?hf033⟩) hS30 ?rf033
                  case hf033 => (intro wz hSw; obtain ⟨k0, k1, k2, k3, k4, k5, k6⟩ := (HG9.out.of hSw).cells; obtain ⟨x0, x1, x2⟩ := (HX9.out.of hSw).cells; obtain ⟨y0, y1, y2⟩ := (HY9.out.of hSw).cells; have z0 := (HZ9.out.kept (hSw.block _ HZ9.out.lt)).cell0; have z1 := (HZ9.out.kept (hSw.block _ HZ9.out.lt)).cell1; go_simp <;> with_reducible rfl)
                  (try simp only [Act.put, List.setIfInBounds_toArray, List.set_cons_zero, List.set_cons_succ])
                  refine wpAnyH_ready (rs := [34]) (by kernel_rfl) (by simp) ?_
                  refine AllReadyH.cons (o := ⟨some 107, Op.call { callee := Callee.value (Operand.func 21), args := #[Operand.tmp 105, Operand.tmp 106], argTypes := #[24, 26] }, 4, _, _, some (31, false)⟩) rfl (fun K hK => ?_) AllReadyH.nil
                  go_simp
                  (with_reducible refine (HWL.out _ hS30).mono ?_); rintro e v31 ⟨rfl, hB31⟩; have hS31 := hS30.trans (hB31.mono hS30.size)
                  refine hK.out _ _ hS31 (fun _ => ?_)
                  clear hK K
                  (try simp only [Act.put, List.setIfInBounds_toArray, List.set_cons_zero, List.set_cons_succ])
                  refine wpAnyH_take (i := 35) (oi := ⟨some 108, Op.move (Operand.tmp 107), 4, _, _, some (31, false)⟩) (v := ?vf035) rfl (by kernel_rfl) (by kernel_rfl) (by kernel_rfl) (fun _ _ _ h => h) (Or.inl ⟨by rfl, ?hf035⟩) hS31 ?rf035
                  case hf035 => (intro wz hSw; go_simp <;> with_reducible rfl)
                  (try simp only [Act.put, List.setIfInBounds_toArray, List.set_cons_zero, List.set_cons_succ])
                  refine wpAnyH_take (i := 36) (oi := ⟨some 109, Op.load 24 (Operand.tmp 4), 24, _, _, some (35, true)⟩) (v := ?vf036) rfl (by kernel_rfl) (by kernel_rfl) (by kernel_rfl) (fun _ _ _ h => h) (Or.inl ⟨by rfl, ?hf036⟩) hS31 ?rf036
                  case hf036 => (intro wz hSw; obtain ⟨k0, k1, k2, k3, k4, k5, k6⟩ := (HG9.out.of hSw).cells; obtain ⟨x0, x1, x2⟩ := (HX9.out.of hSw).cells; obtain ⟨y0, y1, y2⟩ := (HY9.out.of hSw).cells; have z0 := (HZ9.out.kept (hSw.block _ HZ9.out.lt)).cell0; have z1 := (HZ9.out.kept (hSw.block _ HZ9.out.lt)).cell1; go_simp <;> with_reducible rfl)
                  (try simp only [Act.put, List.setIfInBounds_toArray, List.set_cons_zero, List.set_cons_succ])
                  refine wpAnyH_take (i := 37) (oi := ⟨some 110, Op.load 26 (Operand.tmp 5), 26, _, _, some (35, true)⟩) (v := ?vf037) rfl (by kernel_rfl) (by kernel_rfl) (by kernel_rfl) (fun _ _ _ h => h) (Or.inl ⟨by rfl, ?hf037⟩) hS31 ?rf037
                  case hf037 => (intro wz hSw; obtain ⟨k0, k1, k2, k3, k4, k5, k6⟩ := (HG9.out.of hSw).cells; obtain ⟨x0, x1, x2⟩ := (HX9.out.of hSw).cells; obtain ⟨y0, y1, y2⟩ := (HY9.out.of hSw).cells; have z0 := (HZ9.out.kept (hSw.block _ HZ9.out.lt)).cell0; have z1 := (HZ9.out.kept (hSw.block _ HZ9.out.lt)).cell1; go_simp <;> with_reducible rfl)
                  (try simp only [Act.put, List.setIfInBounds_toArray, List.set_cons_zero, List.set_cons_succ])
                  refine wpAnyH_take (i := 38) (oi := ⟨some 111, Op.load 26 (Operand.tmp 6), 26, _, _, some (35, true)⟩) (v := ?vf038) rfl (by kernel_rfl) (by kernel_rfl) (by kernel_rfl) (fun _ _ _ h => h) (Or.inl ⟨by rfl, ?hf038⟩) hS31 ?rf038
                  case hf038 => (intro wz hSw; obtain ⟨k0, k1, k2, k3, k4, k5, k6⟩ := (HG9.out.of hSw).cells; obtain ⟨x0, x1, x2⟩ := (HX9.out.of hSw).cells; obtain ⟨y0, y1, y2⟩ := (HY9.out.of hSw).cells; have z0 := (HZ9.out.kept (hSw.block _ HZ9.out.lt)).cell0; have z1 := (HZ9.out.kept (hSw.block _ HZ9.out.lt)).cell1; go_simp <;> with_reducible rfl)
                  (try simp only [Act.put, List.setIfInBounds_toArray, List.set_cons_zero, List.set_cons_succ])
                  refine wpAnyH_take (i := 40) (oi := ⟨some 113, Op.load 26 (Operand.tmp 13), 26, _, _, some (35, true)⟩) (v := ?vf040) rfl (by kernel_rfl) (by kernel_rfl) (by kernel_rfl) (fun _ _ _ h => h) (Or.inl ⟨by rfl, ?hf040⟩) hS31 ?rf040
                  case hf040 => (intro wz hSw; obtain ⟨k0, k1, k2, k3, k4, k5, k6⟩ := (HG9.out.of hSw).cells; obtain ⟨x0, x1, x2⟩ := (HX9.out.of hSw).cells; obtain ⟨y0, y1, y2⟩ := (HY9.out.of hSw).cells; have z0 := (HZ9.out.kept (hSw.block _ HZ9.out.lt)).cell0; have z1 := (HZ9.out.kept (hSw.block _ HZ9.out.lt)).cell1; go_simp <;> with_reducible rfl)
                  (try simp only [Act.put, List.setIfInBounds_toArray, List.set_cons_zero, List.set_cons_succ])
                  refine wpAnyH_ready (rs := [39]) (by kernel_rfl) (by simp) ?_
                  refine AllReadyH.cons (o := ⟨some 112, Op.call { callee := Callee.value (Operand.func 12), args := #[Operand.tmp 109, Operand.tmp 110, Operand.tmp 111], argTypes := #[24, 26, 26] }, 32, _, _, some (35, true)⟩) rfl (fun K hK => ?_) AllReadyH.nil
                  go_simp
                  (with_reducible refine (HLN.out _).mono ?_); rintro e v32 ⟨⟨A1, c1, rfl, hRt⟩, hB32⟩; have hS32 := hS31.trans (hB32.mono hS31.size)
                  refine hK.out _ _ hS32 (fun _ => ?_)
                  clear hK K
                  (try simp only [Act.put, List.setIfInBounds_toArray, List.set_cons_zero, List.set_cons_succ])
                  refine wpAnyH_ready (rs := [41]) (by kernel_rfl) (by simp) ?_
                  refine AllReadyH.cons (o := ⟨some 114, Op.call { callee := Callee.value (Operand.func 19), args := #[Operand.tmp 112, Operand.tmp 113], argTypes := #[32, 26] }, 4, _, _, some (35, true)⟩) rfl (fun K hK => ?_) AllReadyH.nil
                  go_simp
                  (with_reducible refine (HHS.out _ A1 c1 hRt).mono ?_); rintro e v33 ⟨rfl, hB33⟩; have hS33 := hS32.trans (hB33.mono hS32.size)
                  refine hK.out _ _ hS33 (fun _ => ?_)
                  clear hK K
                  (try simp only [Act.put, List.setIfInBounds_toArray, List.set_cons_zero, List.set_cons_succ])
                  refine wpAnyH_take (i := 42) (oi := ⟨some 115, Op.pick (Operand.tmp 108) (Operand.tmp 114) (Operand.const (Value.bool false)), 4, _, _, some (31, false)⟩) (v := ?vf042) rfl (by kernel_rfl) (by kernel_rfl) (by kernel_rfl) (fun _ _ _ h => h) (Or.inl ⟨by rfl, ?hf042⟩) hS33 ?rf042
                  case hf042 => (intro wz hSw; go_simp <;> with_reducible rfl)
                  (try simp only [Act.put, List.setIfInBounds_toArray, List.set_cons_zero, List.set_cons_succ])
                  refine wpAnyH_take (i := 43) (oi := ⟨some 116, Op.move (Operand.tmp 115), 4, _, _, some (31, false)⟩) (v := ?vf043) rfl (by kernel_rfl) (by kernel_rfl) (by kernel_rfl) (fun _ _ _ h => h) (Or.inl ⟨by rfl, ?hf043⟩) hS33 ?rf043
                  case hf043 => (intro wz hSw; go_simp <;> with_reducible rfl)
                  (try simp only [Act.put, List.setIfInBounds_toArray, List.set_cons_zero, List.set_cons_succ])
                  refine wpAnyH_take (i := 44) (oi := ⟨some 117, Op.load 26 (Operand.tmp 13), 26, _, _, some (43, true)⟩) (v := ?vf044) rfl (by kernel_rfl) (by kernel_rfl) (by kernel_rfl) (fun _ _ _ h => h) (Or.inl ⟨by rfl, ?hf044⟩) hS33 ?rf044
                  case hf044 => (intro wz hSw; obtain ⟨k0, k1, k2, k3, k4, k5, k6⟩ := (HG9.out.of hSw).cells; obtain ⟨x0, x1, x2⟩ := (HX9.out.of hSw).cells; obtain ⟨y0, y1, y2⟩ := (HY9.out.of hSw).cells; have z0 := (HZ9.out.kept (hSw.block _ HZ9.out.lt)).cell0; have z1 := (HZ9.out.kept (hSw.block _ HZ9.out.lt)).cell1; go_simp <;> with_reducible rfl)
                  (try simp only [Act.put, List.setIfInBounds_toArray, List.set_cons_zero, List.set_cons_succ])
                  refine wpAnyH_take (i := 45) (oi := ⟨some 118, Op.load 26 (Operand.tmp 5), 26, _, _, some (43, true)⟩) (v := ?vf045) rfl (by kernel_rfl) (by kernel_rfl) (by kernel_rfl) (fun _ _ _ h => h) (Or.inl ⟨by rfl, ?hf045⟩) hS33 ?rf045
                  case hf045 => (intro wz hSw; obtain ⟨k0, k1, k2, k3, k4, k5, k6⟩ := (HG9.out.of hSw).cells; obtain ⟨x0, x1, x2⟩ := (HX9.out.of hSw).cells; obtain ⟨y0, y1, y2⟩ := (HY9.out.of hSw).cells; have z0 := (HZ9.out.kept (hSw.block _ HZ9.out.lt)).cell0; have z1 := (HZ9.out.kept (hSw.block _ HZ9.out.lt)).cell1; go_simp <;> with_reducible rfl)
                  (try simp only [Act.put, List.setIfInBounds_toArray, List.set_cons_zero, List.set_cons_succ])
                  refine wpAnyH_take (i := 46) (oi := ⟨some 119, Op.binOp BinOp.neq 26 (Operand.tmp 117) (Operand.tmp 118) 26, 4, _, _, some (43, true)⟩) (v := ?vf046) rfl (by kernel_rfl) (by kernel_rfl) (by kernel_rfl) (fun _ _ _ h => h) (Or.inl ⟨by rfl, ?hf046⟩) hS33 ?rf046
                  case hf046 => (intro wz hSw; go_simp <;> with_reducible rfl)
                  (try simp only [Act.put, List.setIfInBounds_toArray, List.set_cons_zero, List.set_cons_succ])
                  refine wpAnyH_take (i := 47) (oi := ⟨some 120, Op.pick (Operand.tmp 116) (Operand.tmp 119) (Operand.const (Value.bool false)), 4, _, _, some (31, false)⟩) (v := ?vf047) rfl (by kernel_rfl) (by kernel_rfl) (by kernel_rfl) (fun _ _ _ h => h) (Or.inl ⟨by rfl, ?hf047⟩) hS33 ?rf047
                  case hf047 => (intro wz hSw; go_simp <;> with_reducible rfl)
                  (try simp only [Act.put, List.setIfInBounds_toArray, List.set_cons_zero, List.set_cons_succ])
                  refine wpAnyH_take (i := 48) (oi := ⟨some 121, Op.move (Operand.tmp 120), 4, _, _, some (31, false)⟩) (v := ?vf048) rfl (by kernel_rfl) (by kernel_rfl) (by kernel_rfl) (fun _ _ _ h => h) (Or.inl ⟨by rfl, ?hf048⟩) hS33 ?rf048
                  case hf048 => (intro wz hSw; go_simp <;> with_reducible rfl)
                  (try simp only [Act.put, List.setIfInBounds_toArray, List.set_cons_zero, List.set_cons_succ])
                  refine wpAnyH_take (i := 49) (oi := ⟨some 122, Op.load 26 (Operand.tmp 13), 26, _, _, some (48, true)⟩) (v := ?vf049) rfl (by kernel_rfl) (by kernel_rfl) (by kernel_rfl) (fun _ _ _ h => h) (Or.inl ⟨by rfl, ?hf049⟩) hS33 ?rf049
                  case hf049 => (intro wz hSw; obtain ⟨k0, k1, k2, k3, k4, k5, k6⟩ := (HG9.out.of hSw).cells; obtain ⟨x0, x1, x2⟩ := (HX9.out.of hSw).cells; obtain ⟨y0, y1, y2⟩ := (HY9.out.of hSw).cells; have z0 := (HZ9.out.kept (hSw.block _ HZ9.out.lt)).cell0; have z1 := (HZ9.out.kept (hSw.block _ HZ9.out.lt)).cell1; go_simp <;> with_reducible rfl)
                  (try simp only [Act.put, List.setIfInBounds_toArray, List.set_cons_zero, List.set_cons_succ])
                  refine wpAnyH_take (i := 50) (oi := ⟨some 123, Op.load 26 (Operand.tmp 6), 26, _, _, some (48, true)⟩) (v := ?vf050) rfl (by kernel_rfl) (by kernel_rfl) (by kernel_rfl) (fun _ _ _ h => h) (Or.inl ⟨by rfl, ?hf050⟩) hS33 ?rf050
                  case hf050 => (intro wz hSw; obtain ⟨k0, k1, k2, k3, k4, k5, k6⟩ := (HG9.out.of hSw).cells; obtain ⟨x0, x1, x2⟩ := (HX9.out.of hSw).cells; obtain ⟨y0, y1, y2⟩ := (HY9.out.of hSw).cells; have z0 := (HZ9.out.kept (hSw.block _ HZ9.out.lt)).cell0; have z1 := (HZ9.out.kept (hSw.block _ HZ9.out.lt)).cell1; go_simp <;> with_reducible rfl)
                  (try simp only [Act.put, List.setIfInBounds_toArray, List.set_cons_zero, List.set_cons_succ])
                  refine wpAnyH_take (i := 51) (oi := ⟨some 124, Op.binOp BinOp.neq 26 (Operand.tmp 122) (Operand.tmp 123) 26, 4, _, _, some (48, true)⟩) (v := ?vf051) rfl (by kernel_rfl) (by kernel_rfl) (by kernel_rfl) (fun _ _ _ h => h) (Or.inl ⟨by rfl, ?hf051⟩) hS33 ?rf051
                  case hf051 => (intro wz hSw; go_simp <;> with_reducible rfl)
                  (try simp only [Act.put, List.setIfInBounds_toArray, List.set_cons_zero, List.set_cons_succ])
                  refine wpAnyH_take (i := 52) (oi := ⟨some 125, Op.pick (Operand.tmp 121) (Operand.tmp 124) (Operand.const (Value.bool false)), 4, _, _, some (31, false)⟩) (v := ?vf052) rfl (by kernel_rfl) (by kernel_rfl) (by kernel_rfl) (fun _ _ _ h => h) (Or.inl ⟨by rfl, ?hf052⟩) hS33 ?rf052
                  case hf052 => (intro wz hSw; go_simp <;> with_reducible rfl)
                  (try simp only [Act.put, List.setIfInBounds_toArray, List.set_cons_zero, List.set_cons_succ])
                  refine wpAnyH_take (i := 53) (oi := ⟨some 126, Op.pick (Operand.tmp 104) (Operand.const (Value.bool true)) (Operand.tmp 125), 4, _, _, some (28, true)⟩) (v := ?vf053) rfl (by kernel_rfl) (by kernel_rfl) (by kernel_rfl) (fun _ _ _ h => h) (Or.inl ⟨by rfl, ?hf053⟩) hS33 ?rf053
                  case hf053 => (intro wz hSw; go_simp <;> with_reducible rfl)
                  (try simp only [Act.put, List.setIfInBounds_toArray, List.set_cons_zero, List.set_cons_succ])
                  refine wpAnyH_take (i := 54) (oi := ⟨some 127, Op.pick (Operand.tmp 101) (Operand.tmp 126) (Operand.const (Value.bool false)), 4, _, _, none⟩) (v := ?vf054) rfl (by kernel_rfl) (by kernel_rfl) (by kernel_rfl) (fun _ _ _ h => h) (Or.inl ⟨by rfl, ?hf054⟩) hS33 ?rf054
                  case hf054 => (intro wz hSw; go_simp <;> with_reducible rfl)
                  (try simp only [Act.put, List.setIfInBounds_toArray, List.set_cons_zero, List.set_cons_succ])
                  refine wpAnyH_take (i := 55) (oi := ⟨some 128, Op.move (Operand.tmp 127), 4, _, _, none⟩) (v := ?vf055) rfl (by kernel_rfl) (by kernel_rfl) (by kernel_rfl) (fun _ _ _ h => h) (Or.inl ⟨by rfl, ?hf055⟩) hS33 ?rf055
                  case hf055 => (intro wz hSw; go_simp <;> with_reducible rfl)
                  (try simp only [Act.put, List.setIfInBounds_toArray, List.set_cons_zero, List.set_cons_succ])
                  refine wpAnyH_take (i := 56) (oi := ⟨some 129, Op.load 24 (Operand.tmp 4), 24, _, _, some (55, true)⟩) (v := ?vf056) rfl (by kernel_rfl) (by kernel_rfl) (by kernel_rfl) (fun _ _ _ h => h) (Or.inl ⟨by rfl, ?hf056⟩) hS33 ?rf056
                  case hf056 => (intro wz hSw; obtain ⟨k0, k1, k2, k3, k4, k5, k6⟩ := (HG9.out.of hSw).cells; obtain ⟨x0, x1, x2⟩ := (HX9.out.of hSw).cells; obtain ⟨y0, y1, y2⟩ := (HY9.out.of hSw).cells; have z0 := (HZ9.out.kept (hSw.block _ HZ9.out.lt)).cell0; have z1 := (HZ9.out.kept (hSw.block _ HZ9.out.lt)).cell1; go_simp <;> with_reducible rfl)
                  (try simp only [Act.put, List.setIfInBounds_toArray, List.set_cons_zero, List.set_cons_succ])
                  refine wpAnyH_take (i := 57) (oi := ⟨some 130, Op.load 26 (Operand.tmp 5), 26, _, _, some (55, true)⟩) (v := ?vf057) rfl (by kernel_rfl) (by kernel_rfl) (by kernel_rfl) (fun _ _ _ h => h) (Or.inl ⟨by rfl, ?hf057⟩) hS33 ?rf057
                  case hf057 => (intro wz hSw; obtain ⟨k0, k1, k2, k3, k4, k5, k6⟩ := (HG9.out.of hSw).cells; obtain ⟨x0, x1, x2⟩ := (HX9.out.of hSw).cells; obtain ⟨y0, y1, y2⟩ := (HY9.out.of hSw).cells; have z0 := (HZ9.out.kept (hSw.block _ HZ9.out.lt)).cell0; have z1 := (HZ9.out.kept (hSw.block _ HZ9.out.lt)).cell1; go_simp <;> with_reducible rfl)
                  (try simp only [Act.put, List.setIfInBounds_toArray, List.set_cons_zero, List.set_cons_succ])
                  refine wpAnyH_take (i := 58) (oi := ⟨some 131, Op.load 26 (Operand.tmp 5), 26, _, _, some (55, true)⟩) (v := ?vf058) rfl (by kernel_rfl) (by kernel_rfl) (by kernel_rfl) (fun _ _ _ h => h) (Or.inl ⟨by rfl, ?hf058⟩) hS33 ?rf058
                  case hf058 => (intro wz hSw; obtain ⟨k0, k1, k2, k3, k4, k5, k6⟩ := (HG9.out.of hSw).cells; obtain ⟨x0, x1, x2⟩ := (HX9.out.of hSw).cells; obtain ⟨y0, y1, y2⟩ := (HY9.out.of hSw).cells; have z0 := (HZ9.out.kept (hSw.block _ HZ9.out.lt)).cell0; have z1 := (HZ9.out.kept (hSw.block _ HZ9.out.lt)).cell1; go_simp <;> with_reducible rfl)
                  (try simp only [Act.put, List.setIfInBounds_toArray, List.set_cons_zero, List.set_cons_succ])
                  refine wpAnyH_ready (rs := [59]) (by kernel_rfl) (by simp) ?_
                  refine AllReadyH.cons (o := ⟨some 132, Op.call { callee := Callee.value (Operand.func 14), args := #[Operand.tmp 129, Operand.tmp 130, Operand.tmp 131], argTypes := #[24, 26, 26] }, 4, _, _, some (55, true)⟩) rfl (fun K hK => ?_) AllReadyH.nil
                  go_simp
                  (with_reducible refine (HSA.out _ hS33).mono ?_); rintro e v34 ⟨rfl, hB34⟩; have hS34 := hS33.trans (hB34.mono hS33.size)
                  refine hK.out _ _ hS34 (fun _ => ?_)
                  clear hK K
                  (try simp only [Act.put, List.setIfInBounds_toArray, List.set_cons_zero, List.set_cons_succ])
                  refine wpAnyH_take (i := 60) (oi := ⟨some 133, Op.pick (Operand.tmp 128) (Operand.tmp 132) (Operand.const (Value.bool false)), 4, _, _, none⟩) (v := ?vf060) rfl (by kernel_rfl) (by kernel_rfl) (by kernel_rfl) (fun _ _ _ h => h) (Or.inl ⟨by rfl, ?hf060⟩) hS34 ?rf060
                  case hf060 => (intro wz hSw; go_simp <;> with_reducible rfl)
                  (try simp only [Act.put, List.setIfInBounds_toArray, List.set_cons_zero, List.set_cons_succ])
                  refine wpAnyH_take (i := 61) (oi := ⟨some 8, Op.assign (Operand.tmp 133), 4, _, _, none⟩) (v := ?vf061) rfl (by kernel_rfl) (by kernel_rfl) (by kernel_rfl) (fun _ _ _ h => h) (Or.inl ⟨by rfl, ?hf061⟩) hS34 ?rf061
                  case hf061 => (intro wz hSw; go_simp <;> with_reducible rfl)
                  (try simp only [Act.put, List.setIfInBounds_toArray, List.set_cons_zero, List.set_cons_succ])
                  refine wpAnyH_done (by kernel_rfl) ?_ _
                  refine NoPanic.normal ?_
                  have hfin := HB9W.out.trans (hS34.mono HB9W.out.size)
                  go_wp2
                  go_ret
                  exact ⟨rfl, hfin⟩
                · have r3 : (px == bx) = false := by simpa using qb
                  clear qb hnb
                  refine wp_region_noPanic ?_
                  refine wp_region_held_drew (S := fun w' => Below w9.heap.size w9 w') (by kernel_rfl) hS0 (fun _ => ?_)
                  refine wpAnyH_take (i := 0) (oi := ⟨some 73, Op.move (Operand.tmp 9), 4, _, _, none⟩) (v := ?vf10) rfl (by kernel_rfl) (by kernel_rfl) (by kernel_rfl) (fun _ _ _ h => h) (Or.inl ⟨by rfl, ?hf10⟩) hS0 ?rf10
                  case hf10 => (intro wz hSw; go_simp <;> with_reducible rfl)
                  (try simp only [Act.put, List.setIfInBounds_toArray, List.set_cons_zero, List.set_cons_succ])
                  refine wpAnyH_take (i := 1) (oi := ⟨some 74, Op.move (Operand.tmp 73), 4, _, _, none⟩) (v := ?vf11) rfl (by kernel_rfl) (by kernel_rfl) (by kernel_rfl) (fun _ _ _ h => h) (Or.inl ⟨by rfl, ?hf11⟩) hS0 ?rf11
                  case hf11 => (intro wz hSw; go_simp <;> with_reducible rfl)
                  (try simp only [Act.put, List.setIfInBounds_toArray, List.set_cons_zero, List.set_cons_succ])
                  refine wpAnyH_take (i := 2) (oi := ⟨some 75, Op.load 24 (Operand.tmp 11), 24, _, _, some (1, true)⟩) (v := ?vf12) rfl (by kernel_rfl) (by kernel_rfl) (by kernel_rfl) (fun _ _ _ h => h) (Or.inl ⟨by rfl, ?hf12⟩) hS0 ?rf12
                  case hf12 => (intro wz hSw; obtain ⟨k0, k1, k2, k3, k4, k5, k6⟩ := (HG9.out.of hSw).cells; obtain ⟨x0, x1, x2⟩ := (HX9.out.of hSw).cells; obtain ⟨y0, y1, y2⟩ := (HY9.out.of hSw).cells; have z0 := (HZ9.out.kept (hSw.block _ HZ9.out.lt)).cell0; have z1 := (HZ9.out.kept (hSw.block _ HZ9.out.lt)).cell1; go_simp <;> with_reducible rfl)
                  (try simp only [Act.put, List.setIfInBounds_toArray, List.set_cons_zero, List.set_cons_succ])
                  refine wpAnyH_take (i := 3) (oi := ⟨some 76, Op.load 26 (Operand.tmp 5), 26, _, _, some (1, true)⟩) (v := ?vf13) rfl (by kernel_rfl) (by kernel_rfl) (by kernel_rfl) (fun _ _ _ h => h) (Or.inl ⟨by rfl, ?hf13⟩) hS0 ?rf13
                  case hf13 => (intro wz hSw; obtain ⟨k0, k1, k2, k3, k4, k5, k6⟩ := (HG9.out.of hSw).cells; obtain ⟨x0, x1, x2⟩ := (HX9.out.of hSw).cells; obtain ⟨y0, y1, y2⟩ := (HY9.out.of hSw).cells; have z0 := (HZ9.out.kept (hSw.block _ HZ9.out.lt)).cell0; have z1 := (HZ9.out.kept (hSw.block _ HZ9.out.lt)).cell1; go_simp <;> with_reducible rfl)
                  (try simp only [Act.put, List.setIfInBounds_toArray, List.set_cons_zero, List.set_cons_succ])
                  refine wpAnyH_take (i := 4) (oi := ⟨some 77, Op.load 26 (Operand.tmp 6), 26, _, _, some (1, true)⟩) (v := ?vf14) rfl (by kernel_rfl) (by kernel_rfl) (by kernel_rfl) (fun _ _ _ h => h) (Or.inl ⟨by rfl, ?hf14⟩) hS0 ?rf14
                  case hf14 => (intro wz hSw; obtain ⟨k0, k1, k2, k3, k4, k5, k6⟩ := (HG9.out.of hSw).cells; obtain ⟨x0, x1, x2⟩ := (HX9.out.of hSw).cells; obtain ⟨y0, y1, y2⟩ := (HY9.out.of hSw).cells; have z0 := (HZ9.out.kept (hSw.block _ HZ9.out.lt)).cell0; have z1 := (HZ9.out.kept (hSw.block _ HZ9.out.lt)).cell1; go_simp <;> with_reducible rfl)
                  (try simp only [Act.put, List.setIfInBounds_toArray, List.set_cons_zero, List.set_cons_succ])
                  refine wpAnyH_ready (rs := [5]) (by kernel_rfl) (by simp) ?_
                  refine AllReadyH.cons (o := ⟨some 78, Op.call { callee := Callee.value (Operand.func 14), args := #[Operand.tmp 75, Operand.tmp 76, Operand.tmp 77], argTypes := #[24, 26, 26] }, 4, _, _, some (1, true)⟩) rfl (fun K hK => ?_) AllReadyH.nil
                  go_simp
                  (with_reducible refine (HSO.out _ hS0).mono ?_); rintro e v35 ⟨rfl, hB35⟩; have hS35 := hS0.trans (hB35.mono hS0.size)
                  refine hK.out _ _ hS35 (fun _ => ?_)
                  clear hK K
                  (try simp only [Act.put, List.setIfInBounds_toArray, List.set_cons_zero, List.set_cons_succ])
                  refine wpAnyH_take (i := 6) (oi := ⟨some 79, Op.pick (Operand.tmp 74) (Operand.tmp 78) (Operand.const (Value.bool false)), 4, _, _, none⟩) (v := ?vf16) rfl (by kernel_rfl) (by kernel_rfl) (by kernel_rfl) (fun _ _ _ h => h) (Or.inl ⟨by rfl, ?hf16⟩) hS35 ?rf16
                  case hf16 => (intro wz hSw; go_simp <;> with_reducible rfl)
                  (try simp only [Act.put, List.setIfInBounds_toArray, List.set_cons_zero, List.set_cons_succ])
                  refine wpAnyH_take (i := 7) (oi := ⟨some 80, Op.move (Operand.tmp 79), 4, _, _, none⟩) (v := ?vf17) rfl (by kernel_rfl) (by kernel_rfl) (by kernel_rfl) (fun _ _ _ h => h) (Or.inl ⟨by rfl, ?hf17⟩) hS35 ?rf17
                  case hf17 => (intro wz hSw; go_simp <;> with_reducible rfl)
                  (try simp only [Act.put, List.setIfInBounds_toArray, List.set_cons_zero, List.set_cons_succ])
                  refine wpAnyH_take (i := 8) (oi := ⟨some 81, Op.load 24 (Operand.tmp 12), 24, _, _, some (7, true)⟩) (v := ?vf18) rfl (by kernel_rfl) (by kernel_rfl) (by kernel_rfl) (fun _ _ _ h => h) (Or.inl ⟨by rfl, ?hf18⟩) hS35 ?rf18
                  case hf18 => (intro wz hSw; obtain ⟨k0, k1, k2, k3, k4, k5, k6⟩ := (HG9.out.of hSw).cells; obtain ⟨x0, x1, x2⟩ := (HX9.out.of hSw).cells; obtain ⟨y0, y1, y2⟩ := (HY9.out.of hSw).cells; have z0 := (HZ9.out.kept (hSw.block _ HZ9.out.lt)).cell0; have z1 := (HZ9.out.kept (hSw.block _ HZ9.out.lt)).cell1; go_simp <;> with_reducible rfl)
                  (try simp only [Act.put, List.setIfInBounds_toArray, List.set_cons_zero, List.set_cons_succ])
                  refine wpAnyH_take (i := 9) (oi := ⟨some 82, Op.load 26 (Operand.tmp 5), 26, _, _, some (7, true)⟩) (v := ?vf19) rfl (by kernel_rfl) (by kernel_rfl) (by kernel_rfl) (fun _ _ _ h => h) (Or.inl ⟨by rfl, ?hf19⟩) hS35 ?rf19
                  case hf19 => (intro wz hSw; obtain ⟨k0, k1, k2, k3, k4, k5, k6⟩ := (HG9.out.of hSw).cells; obtain ⟨x0, x1, x2⟩ := (HX9.out.of hSw).cells; obtain ⟨y0, y1, y2⟩ := (HY9.out.of hSw).cells; have z0 := (HZ9.out.kept (hSw.block _ HZ9.out.lt)).cell0; have z1 := (HZ9.out.kept (hSw.block _ HZ9.out.lt)).cell1; go_simp <;> with_reducible rfl)
                  (try simp only [Act.put, List.setIfInBounds_toArray, List.set_cons_zero, List.set_cons_succ])
                  refine wpAnyH_take (i := 10) (oi := ⟨some 83, Op.load 26 (Operand.tmp 6), 26, _, _, some (7, true)⟩) (v := ?vf110) rfl (by kernel_rfl) (by kernel_rfl) (by kernel_rfl) (fun _ _ _ h => h) (Or.inl ⟨by rfl, ?hf110⟩) hS35 ?rf110
                  case hf110 => (intro wz hSw; obtain ⟨k0, k1, k2, k3, k4, k5, k6⟩ := (HG9.out.of hSw).cells; obtain ⟨x0, x1, x2⟩ := (HX9.out.of hSw).cells; obtain ⟨y0, y1, y2⟩ := (HY9.out.of hSw).cells; have z0 := (HZ9.out.kept (hSw.block _ HZ9.out.lt)).cell0; have z1 := (HZ9.out.kept (hSw.block _ HZ9.out.lt)).cell1; go_simp <;> with_reducible rfl)
                  (try simp only [Act.put, List.setIfInBounds_toArray, List.set_cons_zero, List.set_cons_succ])
                  refine wpAnyH_ready (rs := [11]) (by kernel_rfl) (by simp) ?_
                  refine AllReadyH.cons (o := ⟨some 84, Op.call { callee := Callee.value (Operand.func 14), args := #[Operand.tmp 81, Operand.tmp 82, Operand.tmp 83], argTypes := #[24, 26, 26] }, 4, _, _, some (7, true)⟩) rfl (fun K hK => ?_) AllReadyH.nil
                  go_simp
                  (with_reducible refine (HSM.out _ hS35).mono ?_); rintro e v36 ⟨rfl, hB36⟩; have hS36 := hS35.trans (hB36.mono hS35.size)
                  refine hK.out _ _ hS36 (fun _ => ?_)
                  clear hK K
                  (try simp only [Act.put, List.setIfInBounds_toArray, List.set_cons_zero, List.set_cons_succ])
                  refine wpAnyH_take (i := 12) (oi := ⟨some 85, Op.unOp UnOp.not 4 (Operand.tmp 84), 4, _, _, some (7, true)⟩) (v := ?vf112) rfl (by kernel_rfl) (by kernel_rfl) (by kernel_rfl) (fun _ _ _ h => h) (Or.inl ⟨by rfl, ?hf112⟩) hS36 ?rf112
                  case hf112 => (intro wz hSw; go_simp <;> with_reducible rfl)
                  (try simp only [Act.put, List.setIfInBounds_toArray, List.set_cons_zero, List.set_cons_succ])
                  refine wpAnyH_take (i := 13) (oi := ⟨some 86, Op.move (Operand.tmp 85), 4, _, _, some (7, true)⟩) (v := ?vf113) rfl (by kernel_rfl) (by kernel_rfl) (by kernel_rfl) (fun _ _ _ h => h) (Or.inl ⟨by rfl, ?hf113⟩) hS36 ?rf113
                  case hf113 => (intro wz hSw; go_simp <;> with_reducible rfl)
                  (try simp only [Act.put, List.setIfInBounds_toArray, List.set_cons_zero, List.set_cons_succ])
                  refine wpAnyH_take (i := 14) (oi := ⟨some 87, Op.load 24 (Operand.tmp 4), 24, _, _, some (13, false)⟩) (v := undef) rfl (by kernel_rfl) (by kernel_rfl) (by kernel_rfl) (fun _ _ _ h => h) (Or.inr ⟨by rfl, rfl⟩) hS36 ?rf114
                  (try simp only [Act.put, List.setIfInBounds_toArray, List.set_cons_zero, List.set_cons_succ])
                  refine wpAnyH_take (i := 15) (oi := ⟨some 88, Op.load 26 (Operand.tmp 5), 26, _, _, some (13, false)⟩) (v := undef) rfl (by kernel_rfl) (by kernel_rfl) (by kernel_rfl) (fun _ _ _ h => h) (Or.inr ⟨by rfl, rfl⟩) hS36 ?rf115
                  (try simp only [Act.put, List.setIfInBounds_toArray, List.set_cons_zero, List.set_cons_succ])
                  refine wpAnyH_take (i := 16) (oi := ⟨some 89, Op.load 26 (Operand.tmp 6), 26, _, _, some (13, false)⟩) (v := undef) rfl (by kernel_rfl) (by kernel_rfl) (by kernel_rfl) (fun _ _ _ h => h) (Or.inr ⟨by rfl, rfl⟩) hS36 ?rf116
                  (try simp only [Act.put, List.setIfInBounds_toArray, List.set_cons_zero, List.set_cons_succ])
                  refine wpAnyH_take (i := 17) (oi := ⟨some 90, Op.call { callee := Callee.value (Operand.func 14), args := #[Operand.tmp 87, Operand.tmp 88, Operand.tmp 89], argTypes := #[24, 26, 26] }, 4, _, _, some (13, false)⟩) (v := undef) rfl (by kernel_rfl) (by kernel_rfl) (by kernel_rfl) (fun _ _ _ h => h) (Or.inr ⟨by rfl, rfl⟩) hS36 ?rf117
                  (try simp only [Act.put, List.setIfInBounds_toArray, List.set_cons_zero, List.set_cons_succ])
                  refine wpAnyH_take (i := 18) (oi := ⟨some 91, Op.pick (Operand.tmp 86) (Operand.const (Value.bool true)) (Operand.tmp 90), 4, _, _, some (7, true)⟩) (v := ?vf118) rfl (by kernel_rfl) (by kernel_rfl) (by kernel_rfl) (fun _ _ _ h => h) (Or.inl ⟨by rfl, ?hf118⟩) hS36 ?rf118
                  case hf118 => (intro wz hSw; go_simp <;> with_reducible rfl)
                  (try simp only [Act.put, List.setIfInBounds_toArray, List.set_cons_zero, List.set_cons_succ])
                  refine wpAnyH_take (i := 19) (oi := ⟨some 92, Op.pick (Operand.tmp 80) (Operand.tmp 91) (Operand.const (Value.bool false)), 4, _, _, none⟩) (v := ?vf119) rfl (by kernel_rfl) (by kernel_rfl) (by kernel_rfl) (fun _ _ _ h => h) (Or.inl ⟨by rfl, ?hf119⟩) hS36 ?rf119
                  case hf119 => (intro wz hSw; go_simp <;> with_reducible rfl)
                  (try simp only [Act.put, List.setIfInBounds_toArray, List.set_cons_zero, List.set_cons_succ])
                  refine wpAnyH_take (i := 20) (oi := ⟨some 93, Op.move (Operand.tmp 92), 4, _, _, none⟩) (v := ?vf120) rfl (by kernel_rfl) (by kernel_rfl) (by kernel_rfl) (fun _ _ _ h => h) (Or.inl ⟨by rfl, ?hf120⟩) hS36 ?rf120
                  case hf120 => (intro wz hSw; go_simp <;> with_reducible rfl)
                  (try simp only [Act.put, List.setIfInBounds_toArray, List.set_cons_zero, List.set_cons_succ])
                  refine wpAnyH_take (i := 21) (oi := ⟨some 94, Op.move (Operand.tmp 14), 4, _, _, some (20, true)⟩) (v := ?vf121) rfl (by kernel_rfl) (by kernel_rfl) (by kernel_rfl) (fun _ _ _ h => h) (Or.inl ⟨by rfl, ?hf121⟩) hS36 ?rf121
                  case hf121 => (intro wz hSw; go_simp <;> with_reducible rfl)
                  (try simp only [Act.put, List.setIfInBounds_toArray, List.set_cons_zero, List.set_cons_succ])
                  refine wpAnyH_take (i := 22) (oi := ⟨some 95, Op.load 24 (Operand.tmp 4), 24, _, _, some (20, true)⟩) (v := ?vf122) rfl (by kernel_rfl) (by kernel_rfl) (by kernel_rfl) (fun _ _ _ h => h) (Or.inl ⟨by rfl, ?hf122⟩) hS36 ?rf122
                  case hf122 => (intro wz hSw; obtain ⟨k0, k1, k2, k3, k4, k5, k6⟩ := (HG9.out.of hSw).cells; obtain ⟨x0, x1, x2⟩ := (HX9.out.of hSw).cells; obtain ⟨y0, y1, y2⟩ := (HY9.out.of hSw).cells; have z0 := (HZ9.out.kept (hSw.block _ HZ9.out.lt)).cell0; have z1 := (HZ9.out.kept (hSw.block _ HZ9.out.lt)).cell1; go_simp <;> with_reducible rfl)
                  (try simp only [Act.put, List.setIfInBounds_toArray, List.set_cons_zero, List.set_cons_succ])
                  refine wpAnyH_take (i := 23) (oi := ⟨some 96, Op.load 26 (Operand.tmp 5), 26, _, _, some (20, true)⟩) (v := ?vf123) rfl (by kernel_rfl) (by kernel_rfl) (by kernel_rfl) (fun _ _ _ h => h) (Or.inl ⟨by rfl, ?hf123⟩) hS36 ?rf123
                  case hf123 => (intro wz hSw; obtain ⟨k0, k1, k2, k3, k4, k5, k6⟩ := (HG9.out.of hSw).cells; obtain ⟨x0, x1, x2⟩ := (HX9.out.of hSw).cells; obtain ⟨y0, y1, y2⟩ := (HY9.out.of hSw).cells; have z0 := (HZ9.out.kept (hSw.block _ HZ9.out.lt)).cell0; have z1 := (HZ9.out.kept (hSw.block _ HZ9.out.lt)).cell1; go_simp <;> with_reducible rfl)
                  (try simp only [Act.put, List.setIfInBounds_toArray, List.set_cons_zero, List.set_cons_succ])
                  refine wpAnyH_take (i := 24) (oi := ⟨some 97, Op.load 26 (Operand.tmp 6), 26, _, _, some (20, true)⟩) (v := ?vf124) rfl (by kernel_rfl) (by kernel_rfl) (by kernel_rfl) (fun _ _ _ h => h) (Or.inl ⟨by rfl, ?hf124⟩) hS36 ?rf124
                  case hf124 => (intro wz hSw; obtain ⟨k0, k1, k2, k3, k4, k5, k6⟩ := (HG9.out.of hSw).cells; obtain ⟨x0, x1, x2⟩ := (HX9.out.of hSw).cells; obtain ⟨y0, y1, y2⟩ := (HY9.out.of hSw).cells; have z0 := (HZ9.out.kept (hSw.block _ HZ9.out.lt)).cell0; have z1 := (HZ9.out.kept (hSw.block _ HZ9.out.lt)).cell1; go_simp <;> with_reducible rfl)
                  (try simp only [Act.put, List.setIfInBounds_toArray, List.set_cons_zero, List.set_cons_succ])
                  refine wpAnyH_ready (rs := [25]) (by kernel_rfl) (by simp) ?_
                  refine AllReadyH.cons (o := ⟨some 98, Op.call { callee := Callee.value (Operand.func 14), args := #[Operand.tmp 95, Operand.tmp 96, Operand.tmp 97], argTypes := #[24, 26, 26] }, 4, _, _, some (20, true)⟩) rfl (fun K hK => ?_) AllReadyH.nil
                  go_simp
                  (with_reducible refine (HSG'.out _ hS36).mono ?_); rintro e v37 ⟨rfl, hB37⟩; have hS37 := hS36.trans (hB37.mono hS36.size)
                  refine hK.out _ _ hS37 (fun _ => ?_)
                  clear hK K
                  (try simp only [Act.put, List.setIfInBounds_toArray, List.set_cons_zero, List.set_cons_succ])
                  refine wpAnyH_take (i := 26) (oi := ⟨some 99, Op.binOp BinOp.neq 4 (Operand.tmp 94) (Operand.tmp 98) 4, 4, _, _, some (20, true)⟩) (v := ?vf126) rfl (by kernel_rfl) (by kernel_rfl) (by kernel_rfl) (fun _ _ _ h => h) (Or.inl ⟨by rfl, ?hf126⟩) hS37 ?rf126
                  case hf126 => (intro wz hSw; go_simp <;> with_reducible rfl)
                  (try simp only [Act.put, List.setIfInBounds_toArray, List.set_cons_zero, List.set_cons_succ])
                  refine wpAnyH_take (i := 27) (oi := ⟨some 100, Op.pick (Operand.tmp 93) (Operand.tmp 99) (Operand.const (Value.bool false)), 4, _, _, none⟩) (v := ?vf127) rfl (by kernel_rfl) (by kernel_rfl) (by kernel_rfl) (fun _ _ _ h => h) (Or.inl ⟨by rfl, ?hf127⟩) hS37 ?rf127
                  case hf127 => (intro wz hSw; go_simp <;> with_reducible rfl)
                  (try simp only [Act.put, List.setIfInBounds_toArray, List.set_cons_zero, List.set_cons_succ])
                  refine wpAnyH_take (i := 28) (oi := ⟨some 101, Op.move (Operand.tmp 100), 4, _, _, none⟩) (v := ?vf128) rfl (by kernel_rfl) (by kernel_rfl) (by kernel_rfl) (fun _ _ _ h => h) (Or.inl ⟨by rfl, ?hf128⟩) hS37 ?rf128
                  case hf128 => (intro wz hSw; go_simp <;> with_reducible rfl)
                  (try simp only [Act.put, List.setIfInBounds_toArray, List.set_cons_zero, List.set_cons_succ])
                  refine wpAnyH_take (i := 29) (oi := ⟨some 102, Op.move (Operand.tmp 14), 4, _, _, some (28, true)⟩) (v := ?vf129) rfl (by kernel_rfl) (by kernel_rfl) (by kernel_rfl) (fun _ _ _ h => h) (Or.inl ⟨by rfl, ?hf129⟩) hS37 ?rf129
                  case hf129 => (intro wz hSw; go_simp <;> with_reducible rfl)
                  (try simp only [Act.put, List.setIfInBounds_toArray, List.set_cons_zero, List.set_cons_succ])
                  refine wpAnyH_take (i := 30) (oi := ⟨some 103, Op.unOp UnOp.not 4 (Operand.tmp 102), 4, _, _, some (28, true)⟩) (v := ?vf130) rfl (by kernel_rfl) (by kernel_rfl) (by kernel_rfl) (fun _ _ _ h => h) (Or.inl ⟨by rfl, ?hf130⟩) hS37 ?rf130
                  case hf130 => (intro wz hSw; go_simp <;> with_reducible rfl)
                  (try simp only [Act.put, List.setIfInBounds_toArray, List.set_cons_zero, List.set_cons_succ])
                  refine wpAnyH_take (i := 31) (oi := ⟨some 104, Op.move (Operand.tmp 103), 4, _, _, some (28, true)⟩) (v := ?vf131) rfl (by kernel_rfl) (by kernel_rfl) (by kernel_rfl) (fun _ _ _ h => h) (Or.inl ⟨by rfl, ?hf131⟩) hS37 ?rf131
                  case hf131 => (intro wz hSw; go_simp <;> with_reducible rfl)
                  (try simp only [Act.put, List.setIfInBounds_toArray, List.set_cons_zero, List.set_cons_succ])
                  refine wpAnyH_take (i := 32) (oi := ⟨some 105, Op.load 24 (Operand.tmp 4), 24, _, _, some (31, false)⟩) (v := ?vf132) rfl (by kernel_rfl) (by kernel_rfl) (by kernel_rfl) (fun _ _ _ h => h) (Or.inl ⟨by rfl, ?hf132⟩) hS37 ?rf132
                  case hf132 => (intro wz hSw; obtain ⟨k0, k1, k2, k3, k4, k5, k6⟩ := (HG9.out.of hSw).cells; obtain ⟨x0, x1, x2⟩ := (HX9.out.of hSw).cells; obtain ⟨y0, y1, y2⟩ := (HY9.out.of hSw).cells; have z0 := (HZ9.out.kept (hSw.block _ HZ9.out.lt)).cell0; have z1 := (HZ9.out.kept (hSw.block _ HZ9.out.lt)).cell1; go_simp <;> with_reducible rfl)
                  (try simp only [Act.put, List.setIfInBounds_toArray, List.set_cons_zero, List.set_cons_succ])
                  refine wpAnyH_take (i := 33) (oi := ⟨some 106, Op.load 26 (Operand.tmp 13), 26, _, _, some (31, false)⟩) (v := ?vf133) rfl (by kernel_rfl) (by kernel_rfl) (by kernel_rfl) (fun _ _ _ h => h) (Or.inl ⟨by rfl, ?hf133⟩) hS37 ?rf133
                  case hf133 => (intro wz hSw; obtain ⟨k0, k1, k2, k3, k4, k5, k6⟩ := (HG9.out.of hSw).cells; obtain ⟨x0, x1, x2⟩ := (HX9.out.of hSw).cells; obtain ⟨y0, y1, y2⟩ := (HY9.out.of hSw).cells; have z0 := (HZ9.out.kept (hSw.block _ HZ9.out.lt)).cell0; have z1 := (HZ9.out.kept (hSw.block _ HZ9.out.lt)).cell1; go_simp <;> with_reducible rfl)
                  (try simp only [Act.put, List.setIfInBounds_toArray, List.set_cons_zero, List.set_cons_succ])
                  refine wpAnyH_ready (rs := [34]) (by kernel_rfl) (by simp) ?_
                  refine AllReadyH.cons (o := ⟨some 107, Op.call { callee := Callee.value (Operand.func 21), args := #[Operand.tmp 105, Operand.tmp 106], argTypes := #[24, 26] }, 4, _, _, some (31, false)⟩) rfl (fun K hK => ?_) AllReadyH.nil
                  go_simp
                  (with_reducible refine (HWL.out _ hS37).mono ?_); rintro e v38 ⟨rfl, hB38⟩; have hS38 := hS37.trans (hB38.mono hS37.size)
                  refine hK.out _ _ hS38 (fun _ => ?_)
                  clear hK K
                  (try simp only [Act.put, List.setIfInBounds_toArray, List.set_cons_zero, List.set_cons_succ])
                  refine wpAnyH_take (i := 35) (oi := ⟨some 108, Op.move (Operand.tmp 107), 4, _, _, some (31, false)⟩) (v := ?vf135) rfl (by kernel_rfl) (by kernel_rfl) (by kernel_rfl) (fun _ _ _ h => h) (Or.inl ⟨by rfl, ?hf135⟩) hS38 ?rf135
                  case hf135 => (intro wz hSw; go_simp <;> with_reducible rfl)
                  (try simp only [Act.put, List.setIfInBounds_toArray, List.set_cons_zero, List.set_cons_succ])
                  refine wpAnyH_take (i := 36) (oi := ⟨some 109, Op.load 24 (Operand.tmp 4), 24, _, _, some (35, true)⟩) (v := ?vf136) rfl (by kernel_rfl) (by kernel_rfl) (by kernel_rfl) (fun _ _ _ h => h) (Or.inl ⟨by rfl, ?hf136⟩) hS38 ?rf136
                  case hf136 => (intro wz hSw; obtain ⟨k0, k1, k2, k3, k4, k5, k6⟩ := (HG9.out.of hSw).cells; obtain ⟨x0, x1, x2⟩ := (HX9.out.of hSw).cells; obtain ⟨y0, y1, y2⟩ := (HY9.out.of hSw).cells; have z0 := (HZ9.out.kept (hSw.block _ HZ9.out.lt)).cell0; have z1 := (HZ9.out.kept (hSw.block _ HZ9.out.lt)).cell1; go_simp <;> with_reducible rfl)
                  (try simp only [Act.put, List.setIfInBounds_toArray, List.set_cons_zero, List.set_cons_succ])
                  refine wpAnyH_take (i := 37) (oi := ⟨some 110, Op.load 26 (Operand.tmp 5), 26, _, _, some (35, true)⟩) (v := ?vf137) rfl (by kernel_rfl) (by kernel_rfl) (by kernel_rfl) (fun _ _ _ h => h) (Or.inl ⟨by rfl, ?hf137⟩) hS38 ?rf137
                  case hf137 => (intro wz hSw; obtain ⟨k0, k1, k2, k3, k4, k5, k6⟩ := (HG9.out.of hSw).cells; obtain ⟨x0, x1, x2⟩ := (HX9.out.of hSw).cells; obtain ⟨y0, y1, y2⟩ := (HY9.out.of hSw).cells; have z0 := (HZ9.out.kept (hSw.block _ HZ9.out.lt)).cell0; have z1 := (HZ9.out.kept (hSw.block _ HZ9.out.lt)).cell1; go_simp <;> with_reducible rfl)
                  (try simp only [Act.put, List.setIfInBounds_toArray, List.set_cons_zero, List.set_cons_succ])
                  refine wpAnyH_take (i := 38) (oi := ⟨some 111, Op.load 26 (Operand.tmp 6), 26, _, _, some (35, true)⟩) (v := ?vf138) rfl (by kernel_rfl) (by kernel_rfl) (by kernel_rfl) (fun _ _ _ h => h) (Or.inl ⟨by rfl, ?hf138⟩) hS38 ?rf138
                  case hf138 => (intro wz hSw; obtain ⟨k0, k1, k2, k3, k4, k5, k6⟩ := (HG9.out.of hSw).cells; obtain ⟨x0, x1, x2⟩ := (HX9.out.of hSw).cells; obtain ⟨y0, y1, y2⟩ := (HY9.out.of hSw).cells; have z0 := (HZ9.out.kept (hSw.block _ HZ9.out.lt)).cell0; have z1 := (HZ9.out.kept (hSw.block _ HZ9.out.lt)).cell1; go_simp <;> with_reducible rfl)
                  (try simp only [Act.put, List.setIfInBounds_toArray, List.set_cons_zero, List.set_cons_succ])
                  refine wpAnyH_take (i := 40) (oi := ⟨some 113, Op.load 26 (Operand.tmp 13), 26, _, _, some (35, true)⟩) (v := ?vf140) rfl (by kernel_rfl) (by kernel_rfl) (by kernel_rfl) (fun _ _ _ h => h) (Or.inl ⟨by rfl, ?hf140⟩) hS38 ?rf140
                  case hf140 => (intro wz hSw; obtain ⟨k0, k1, k2, k3, k4, k5, k6⟩ := (HG9.out.of hSw).cells; obtain ⟨x0, x1, x2⟩ := (HX9.out.of hSw).cells; obtain ⟨y0, y1, y2⟩ := (HY9.out.of hSw).cells; have z0 := (HZ9.out.kept (hSw.block _ HZ9.out.lt)).cell0; have z1 := (HZ9.out.kept (hSw.block _ HZ9.out.lt)).cell1; go_simp <;> with_reducible rfl)
                  (try simp only [Act.put, List.setIfInBounds_toArray, List.set_cons_zero, List.set_cons_succ])
                  refine wpAnyH_ready (rs := [39]) (by kernel_rfl) (by simp) ?_
                  refine AllReadyH.cons (o := ⟨some 112, Op.call { callee := Callee.value (Operand.func 12), args := #[Operand.tmp 109, Operand.tmp 110, Operand.tmp 111], argTypes := #[24, 26, 26] }, 32, _, _, some (35, true)⟩) rfl (fun K hK => ?_) AllReadyH.nil
                  go_simp
                  (with_reducible refine (HLN.out _).mono ?_); rintro e v39 ⟨⟨A1, c1, rfl, hRt⟩, hB39⟩; have hS39 := hS38.trans (hB39.mono hS38.size)
                  refine hK.out _ _ hS39 (fun _ => ?_)
                  clear hK K
                  (try simp only [Act.put, List.setIfInBounds_toArray, List.set_cons_zero, List.set_cons_succ])
                  refine wpAnyH_ready (rs := [41]) (by kernel_rfl) (by simp) ?_
                  refine AllReadyH.cons (o := ⟨some 114, Op.call { callee := Callee.value (Operand.func 19), args := #[Operand.tmp 112, Operand.tmp 113], argTypes := #[32, 26] }, 4, _, _, some (35, true)⟩) rfl (fun K hK => ?_) AllReadyH.nil
                  go_simp
                  (with_reducible refine (HHS.out _ A1 c1 hRt).mono ?_); rintro e v40 ⟨rfl, hB40⟩; have hS40 := hS39.trans (hB40.mono hS39.size)
                  refine hK.out _ _ hS40 (fun _ => ?_)
                  clear hK K
                  (try simp only [Act.put, List.setIfInBounds_toArray, List.set_cons_zero, List.set_cons_succ])
                  refine wpAnyH_take (i := 42) (oi := ⟨some 115, Op.pick (Operand.tmp 108) (Operand.tmp 114) (Operand.const (Value.bool false)), 4, _, _, some (31, false)⟩) (v := ?vf142) rfl (by kernel_rfl) (by kernel_rfl) (by kernel_rfl) (fun _ _ _ h => h) (Or.inl ⟨by rfl, ?hf142⟩) hS40 ?rf142
                  case hf142 => (intro wz hSw; go_simp <;> with_reducible rfl)
                  (try simp only [Act.put, List.setIfInBounds_toArray, List.set_cons_zero, List.set_cons_succ])
                  refine wpAnyH_take (i := 43) (oi := ⟨some 116, Op.move (Operand.tmp 115), 4, _, _, some (31, false)⟩) (v := ?vf143) rfl (by kernel_rfl) (by kernel_rfl) (by kernel_rfl) (fun _ _ _ h => h) (Or.inl ⟨by rfl, ?hf143⟩) hS40 ?rf143
                  case hf143 => (intro wz hSw; go_simp <;> with_reducible rfl)
                  (try simp only [Act.put, List.setIfInBounds_toArray, List.set_cons_zero, List.set_cons_succ])
                  refine wpAnyH_take (i := 44) (oi := ⟨some 117, Op.load 26 (Operand.tmp 13), 26, _, _, some (43, true)⟩) (v := ?vf144) rfl (by kernel_rfl) (by kernel_rfl) (by kernel_rfl) (fun _ _ _ h => h) (Or.inl ⟨by rfl, ?hf144⟩) hS40 ?rf144
                  case hf144 => (intro wz hSw; obtain ⟨k0, k1, k2, k3, k4, k5, k6⟩ := (HG9.out.of hSw).cells; obtain ⟨x0, x1, x2⟩ := (HX9.out.of hSw).cells; obtain ⟨y0, y1, y2⟩ := (HY9.out.of hSw).cells; have z0 := (HZ9.out.kept (hSw.block _ HZ9.out.lt)).cell0; have z1 := (HZ9.out.kept (hSw.block _ HZ9.out.lt)).cell1; go_simp <;> with_reducible rfl)
                  (try simp only [Act.put, List.setIfInBounds_toArray, List.set_cons_zero, List.set_cons_succ])
                  refine wpAnyH_take (i := 45) (oi := ⟨some 118, Op.load 26 (Operand.tmp 5), 26, _, _, some (43, true)⟩) (v := ?vf145) rfl (by kernel_rfl) (by kernel_rfl) (by kernel_rfl) (fun _ _ _ h => h) (Or.inl ⟨by rfl, ?hf145⟩) hS40 ?rf145
                  case hf145 => (intro wz hSw; obtain ⟨k0, k1, k2, k3, k4, k5, k6⟩ := (HG9.out.of hSw).cells; obtain ⟨x0, x1, x2⟩ := (HX9.out.of hSw).cells; obtain ⟨y0, y1, y2⟩ := (HY9.out.of hSw).cells; have z0 := (HZ9.out.kept (hSw.block _ HZ9.out.lt)).cell0; have z1 := (HZ9.out.kept (hSw.block _ HZ9.out.lt)).cell1; go_simp <;> with_reducible rfl)
                  (try simp only [Act.put, List.setIfInBounds_toArray, List.set_cons_zero, List.set_cons_succ])
                  refine wpAnyH_take (i := 46) (oi := ⟨some 119, Op.binOp BinOp.neq 26 (Operand.tmp 117) (Operand.tmp 118) 26, 4, _, _, some (43, true)⟩) (v := ?vf146) rfl (by kernel_rfl) (by kernel_rfl) (by kernel_rfl) (fun _ _ _ h => h) (Or.inl ⟨by rfl, ?hf146⟩) hS40 ?rf146
                  case hf146 => (intro wz hSw; go_simp <;> with_reducible rfl)
                  (try simp only [Act.put, List.setIfInBounds_toArray, List.set_cons_zero, List.set_cons_succ])
                  refine wpAnyH_take (i := 47) (oi := ⟨some 120, Op.pick (Operand.tmp 116) (Operand.tmp 119) (Operand.const (Value.bool false)), 4, _, _, some (31, false)⟩) (v := ?vf147) rfl (by kernel_rfl) (by kernel_rfl) (by kernel_rfl) (fun _ _ _ h => h) (Or.inl ⟨by rfl, ?hf147⟩) hS40 ?rf147
                  case hf147 => (intro wz hSw; go_simp <;> with_reducible rfl)
                  (try simp only [Act.put, List.setIfInBounds_toArray, List.set_cons_zero, List.set_cons_succ])
                  refine wpAnyH_take (i := 48) (oi := ⟨some 121, Op.move (Operand.tmp 120), 4, _, _, some (31, false)⟩) (v := ?vf148) rfl (by kernel_rfl) (by kernel_rfl) (by kernel_rfl) (fun _ _ _ h => h) (Or.inl ⟨by rfl, ?hf148⟩) hS40 ?rf148
                  case hf148 => (intro wz hSw; go_simp <;> with_reducible rfl)
                  (try simp only [Act.put, List.setIfInBounds_toArray, List.set_cons_zero, List.set_cons_succ])
                  refine wpAnyH_take (i := 49) (oi := ⟨some 122, Op.load 26 (Operand.tmp 13), 26, _, _, some (48, true)⟩) (v := ?vf149) rfl (by kernel_rfl) (by kernel_rfl) (by kernel_rfl) (fun _ _ _ h => h) (Or.inl ⟨by rfl, ?hf149⟩) hS40 ?rf149
                  case hf149 => (intro wz hSw; obtain ⟨k0, k1, k2, k3, k4, k5, k6⟩ := (HG9.out.of hSw).cells; obtain ⟨x0, x1, x2⟩ := (HX9.out.of hSw).cells; obtain ⟨y0, y1, y2⟩ := (HY9.out.of hSw).cells; have z0 := (HZ9.out.kept (hSw.block _ HZ9.out.lt)).cell0; have z1 := (HZ9.out.kept (hSw.block _ HZ9.out.lt)).cell1; go_simp <;> with_reducible rfl)
                  (try simp only [Act.put, List.setIfInBounds_toArray, List.set_cons_zero, List.set_cons_succ])
                  refine wpAnyH_take (i := 50) (oi := ⟨some 123, Op.load 26 (Operand.tmp 6), 26, _, _, some (48, true)⟩) (v := ?vf150) rfl (by kernel_rfl) (by kernel_rfl) (by kernel_rfl) (fun _ _ _ h => h) (Or.inl ⟨by rfl, ?hf150⟩) hS40 ?rf150
                  case hf150 => (intro wz hSw; obtain ⟨k0, k1, k2, k3, k4, k5, k6⟩ := (HG9.out.of hSw).cells; obtain ⟨x0, x1, x2⟩ := (HX9.out.of hSw).cells; obtain ⟨y0, y1, y2⟩ := (HY9.out.of hSw).cells; have z0 := (HZ9.out.kept (hSw.block _ HZ9.out.lt)).cell0; have z1 := (HZ9.out.kept (hSw.block _ HZ9.out.lt)).cell1; go_simp <;> with_reducible rfl)
                  (try simp only [Act.put, List.setIfInBounds_toArray, List.set_cons_zero, List.set_cons_succ])
                  refine wpAnyH_take (i := 51) (oi := ⟨some 124, Op.binOp BinOp.neq 26 (Operand.tmp 122) (Operand.tmp 123) 26, 4, _, _, some (48, true)⟩) (v := ?vf151) rfl (by kernel_rfl) (by kernel_rfl) (by kernel_rfl) (fun _ _ _ h => h) (Or.inl ⟨by rfl, ?hf151⟩) hS40 ?rf151
                  case hf151 => (intro wz hSw; go_simp <;> with_reducible rfl)
                  (try simp only [Act.put, List.setIfInBounds_toArray, List.set_cons_zero, List.set_cons_succ])
                  refine wpAnyH_take (i := 52) (oi := ⟨some 125, Op.pick (Operand.tmp 121) (Operand.tmp 124) (Operand.const (Value.bool false)), 4, _, _, some (31, false)⟩) (v := ?vf152) rfl (by kernel_rfl) (by kernel_rfl) (by kernel_rfl) (fun _ _ _ h => h) (Or.inl ⟨by rfl, ?hf152⟩) hS40 ?rf152
                  case hf152 => (intro wz hSw; go_simp <;> with_reducible rfl)
                  (try simp only [Act.put, List.setIfInBounds_toArray, List.set_cons_zero, List.set_cons_succ])
                  refine wpAnyH_take (i := 53) (oi := ⟨some 126, Op.pick (Operand.tmp 104) (Operand.const (Value.bool true)) (Operand.tmp 125), 4, _, _, some (28, true)⟩) (v := ?vf153) rfl (by kernel_rfl) (by kernel_rfl) (by kernel_rfl) (fun _ _ _ h => h) (Or.inl ⟨by rfl, ?hf153⟩) hS40 ?rf153
                  case hf153 => (intro wz hSw; go_simp <;> with_reducible rfl)
                  (try simp only [Act.put, List.setIfInBounds_toArray, List.set_cons_zero, List.set_cons_succ])
                  refine wpAnyH_take (i := 54) (oi := ⟨some 127, Op.pick (Operand.tmp 101) (Operand.tmp 126) (Operand.const (Value.bool false)), 4, _, _, none⟩) (v := ?vf154) rfl (by kernel_rfl) (by kernel_rfl) (by kernel_rfl) (fun _ _ _ h => h) (Or.inl ⟨by rfl, ?hf154⟩) hS40 ?rf154
                  case hf154 => (intro wz hSw; go_simp <;> with_reducible rfl)
                  (try simp only [Act.put, List.setIfInBounds_toArray, List.set_cons_zero, List.set_cons_succ])
                  refine wpAnyH_take (i := 55) (oi := ⟨some 128, Op.move (Operand.tmp 127), 4, _, _, none⟩) (v := ?vf155) rfl (by kernel_rfl) (by kernel_rfl) (by kernel_rfl) (fun _ _ _ h => h) (Or.inl ⟨by rfl, ?hf155⟩) hS40 ?rf155
                  case hf155 => (intro wz hSw; go_simp <;> with_reducible rfl)
                  (try simp only [Act.put, List.setIfInBounds_toArray, List.set_cons_zero, List.set_cons_succ])
                  refine wpAnyH_take (i := 56) (oi := ⟨some 129, Op.load 24 (Operand.tmp 4), 24, _, _, some (55, true)⟩) (v := ?vf156) rfl (by kernel_rfl) (by kernel_rfl) (by kernel_rfl) (fun _ _ _ h => h) (Or.inl ⟨by rfl, ?hf156⟩) hS40 ?rf156
                  case hf156 => (intro wz hSw; obtain ⟨k0, k1, k2, k3, k4, k5, k6⟩ := (HG9.out.of hSw).cells; obtain ⟨x0, x1, x2⟩ := (HX9.out.of hSw).cells; obtain ⟨y0, y1, y2⟩ := (HY9.out.of hSw).cells; have z0 := (HZ9.out.kept (hSw.block _ HZ9.out.lt)).cell0; have z1 := (HZ9.out.kept (hSw.block _ HZ9.out.lt)).cell1; go_simp <;> with_reducible rfl)
                  (try simp only [Act.put, List.setIfInBounds_toArray, List.set_cons_zero, List.set_cons_succ])
                  refine wpAnyH_take (i := 57) (oi := ⟨some 130, Op.load 26 (Operand.tmp 5), 26, _, _, some (55, true)⟩) (v := ?vf157) rfl (by kernel_rfl) (by kernel_rfl) (by kernel_rfl) (fun _ _ _ h => h) (Or.inl ⟨by rfl, ?hf157⟩) hS40 ?rf157
                  case hf157 => (intro wz hSw; obtain ⟨k0, k1, k2, k3, k4, k5, k6⟩ := (HG9.out.of hSw).cells; obtain ⟨x0, x1, x2⟩ := (HX9.out.of hSw).cells; obtain ⟨y0, y1, y2⟩ := (HY9.out.of hSw).cells; have z0 := (HZ9.out.kept (hSw.block _ HZ9.out.lt)).cell0; have z1 := (HZ9.out.kept (hSw.block _ HZ9.out.lt)).cell1; go_simp <;> with_reducible rfl)
                  (try simp only [Act.put, List.setIfInBounds_toArray, List.set_cons_zero, List.set_cons_succ])
                  refine wpAnyH_take (i := 58) (oi := ⟨some 131, Op.load 26 (Operand.tmp 5), 26, _, _, some (55, true)⟩) (v := ?vf158) rfl (by kernel_rfl) (by kernel_rfl) (by kernel_rfl) (fun _ _ _ h => h) (Or.inl ⟨by rfl, ?hf158⟩) hS40 ?rf158
                  case hf158 => (intro wz hSw; obtain ⟨k0, k1, k2, k3, k4, k5, k6⟩ := (HG9.out.of hSw).cells; obtain ⟨x0, x1, x2⟩ := (HX9.out.of hSw).cells; obtain ⟨y0, y1, y2⟩ := (HY9.out.of hSw).cells; have z0 := (HZ9.out.kept (hSw.block _ HZ9.out.lt)).cell0; have z1 := (HZ9.out.kept (hSw.block _ HZ9.out.lt)).cell1; go_simp <;> with_reducible rfl)
                  (try simp only [Act.put, List.setIfInBounds_toArray, List.set_cons_zero, List.set_cons_succ])
                  refine wpAnyH_ready (rs := [59]) (by kernel_rfl) (by simp) ?_
                  refine AllReadyH.cons (o := ⟨some 132, Op.call { callee := Callee.value (Operand.func 14), args := #[Operand.tmp 129, Operand.tmp 130, Operand.tmp 131], argTypes := #[24, 26, 26] }, 4, _, _, some (55, true)⟩) rfl (fun K hK => ?_) AllReadyH.nil
                  go_simp
                  (with_reducible refine (HSA.out _ hS40).mono ?_); rintro e v41 ⟨rfl, hB41⟩; have hS41 := hS40.trans (hB41.mono hS40.size)
                  refine hK.out _ _ hS41 (fun _ => ?_)
                  clear hK K
                  (try simp only [Act.put, List.setIfInBounds_toArray, List.set_cons_zero, List.set_cons_succ])
                  refine wpAnyH_take (i := 60) (oi := ⟨some 133, Op.pick (Operand.tmp 128) (Operand.tmp 132) (Operand.const (Value.bool false)), 4, _, _, none⟩) (v := ?vf160) rfl (by kernel_rfl) (by kernel_rfl) (by kernel_rfl) (fun _ _ _ h => h) (Or.inl ⟨by rfl, ?hf160⟩) hS41 ?rf160
                  case hf160 => (intro wz hSw; go_simp <;> with_reducible rfl)
                  (try simp only [Act.put, List.setIfInBounds_toArray, List.set_cons_zero, List.set_cons_succ])
                  refine wpAnyH_take (i := 61) (oi := ⟨some 8, Op.assign (Operand.tmp 133), 4, _, _, none⟩) (v := ?vf161) rfl (by kernel_rfl) (by kernel_rfl) (by kernel_rfl) (fun _ _ _ h => h) (Or.inl ⟨by rfl, ?hf161⟩) hS41 ?rf161
                  case hf161 => (intro wz hSw; go_simp <;> with_reducible rfl)
                  (try simp only [Act.put, List.setIfInBounds_toArray, List.set_cons_zero, List.set_cons_succ])
                  refine wpAnyH_done (by kernel_rfl) ?_ _
                  refine NoPanic.normal ?_
                  have hfin := HB9W.out.trans (hS41.mono HB9W.out.size)
                  go_wp2
                  go_ret
                  exact ⟨rfl, hfin⟩
              · have r1 : (px == ax) = false := by simpa using qa
                clear qa hna
                by_cases qb : px = bx
                · have qb2 : py ≠ by' := fun h => hnb ⟨qb, h⟩
                  have r3 : (px == bx) = true := by simpa using qb
                  have r4 : (py == by') = false := by simpa using qb2
                  clear qb qb2 hnb
                  refine wp_region_noPanic ?_
                  refine wp_region_held_drew (S := fun w' => Below w9.heap.size w9 w') (by kernel_rfl) hS0 (fun _ => ?_)
                  refine wpAnyH_take (i := 0) (oi := ⟨some 73, Op.move (Operand.tmp 9), 4, _, _, none⟩) (v := ?vf20) rfl (by kernel_rfl) (by kernel_rfl) (by kernel_rfl) (fun _ _ _ h => h) (Or.inl ⟨by rfl, ?hf20⟩) hS0 ?rf20
                  case hf20 => (intro wz hSw; go_simp <;> with_reducible rfl)
                  (try simp only [Act.put, List.setIfInBounds_toArray, List.set_cons_zero, List.set_cons_succ])
                  refine wpAnyH_take (i := 1) (oi := ⟨some 74, Op.move (Operand.tmp 73), 4, _, _, none⟩) (v := ?vf21) rfl (by kernel_rfl) (by kernel_rfl) (by kernel_rfl) (fun _ _ _ h => h) (Or.inl ⟨by rfl, ?hf21⟩) hS0 ?rf21
                  case hf21 => (intro wz hSw; go_simp <;> with_reducible rfl)
                  (try simp only [Act.put, List.setIfInBounds_toArray, List.set_cons_zero, List.set_cons_succ])
                  refine wpAnyH_take (i := 2) (oi := ⟨some 75, Op.load 24 (Operand.tmp 11), 24, _, _, some (1, true)⟩) (v := ?vf22) rfl (by kernel_rfl) (by kernel_rfl) (by kernel_rfl) (fun _ _ _ h => h) (Or.inl ⟨by rfl, ?hf22⟩) hS0 ?rf22
                  case hf22 => (intro wz hSw; obtain ⟨k0, k1, k2, k3, k4, k5, k6⟩ := (HG9.out.of hSw).cells; obtain ⟨x0, x1, x2⟩ := (HX9.out.of hSw).cells; obtain ⟨y0, y1, y2⟩ := (HY9.out.of hSw).cells; have z0 := (HZ9.out.kept (hSw.block _ HZ9.out.lt)).cell0; have z1 := (HZ9.out.kept (hSw.block _ HZ9.out.lt)).cell1; go_simp <;> with_reducible rfl)
                  (try simp only [Act.put, List.setIfInBounds_toArray, List.set_cons_zero, List.set_cons_succ])
                  refine wpAnyH_take (i := 3) (oi := ⟨some 76, Op.load 26 (Operand.tmp 5), 26, _, _, some (1, true)⟩) (v := ?vf23) rfl (by kernel_rfl) (by kernel_rfl) (by kernel_rfl) (fun _ _ _ h => h) (Or.inl ⟨by rfl, ?hf23⟩) hS0 ?rf23
                  case hf23 => (intro wz hSw; obtain ⟨k0, k1, k2, k3, k4, k5, k6⟩ := (HG9.out.of hSw).cells; obtain ⟨x0, x1, x2⟩ := (HX9.out.of hSw).cells; obtain ⟨y0, y1, y2⟩ := (HY9.out.of hSw).cells; have z0 := (HZ9.out.kept (hSw.block _ HZ9.out.lt)).cell0; have z1 := (HZ9.out.kept (hSw.block _ HZ9.out.lt)).cell1; go_simp <;> with_reducible rfl)
                  (try simp only [Act.put, List.setIfInBounds_toArray, List.set_cons_zero, List.set_cons_succ])
                  refine wpAnyH_take (i := 4) (oi := ⟨some 77, Op.load 26 (Operand.tmp 6), 26, _, _, some (1, true)⟩) (v := ?vf24) rfl (by kernel_rfl) (by kernel_rfl) (by kernel_rfl) (fun _ _ _ h => h) (Or.inl ⟨by rfl, ?hf24⟩) hS0 ?rf24
                  case hf24 => (intro wz hSw; obtain ⟨k0, k1, k2, k3, k4, k5, k6⟩ := (HG9.out.of hSw).cells; obtain ⟨x0, x1, x2⟩ := (HX9.out.of hSw).cells; obtain ⟨y0, y1, y2⟩ := (HY9.out.of hSw).cells; have z0 := (HZ9.out.kept (hSw.block _ HZ9.out.lt)).cell0; have z1 := (HZ9.out.kept (hSw.block _ HZ9.out.lt)).cell1; go_simp <;> with_reducible rfl)
                  (try simp only [Act.put, List.setIfInBounds_toArray, List.set_cons_zero, List.set_cons_succ])
                  refine wpAnyH_ready (rs := [5]) (by kernel_rfl) (by simp) ?_
                  refine AllReadyH.cons (o := ⟨some 78, Op.call { callee := Callee.value (Operand.func 14), args := #[Operand.tmp 75, Operand.tmp 76, Operand.tmp 77], argTypes := #[24, 26, 26] }, 4, _, _, some (1, true)⟩) rfl (fun K hK => ?_) AllReadyH.nil
                  go_simp
                  (with_reducible refine (HSO.out _ hS0).mono ?_); rintro e v42 ⟨rfl, hB42⟩; have hS42 := hS0.trans (hB42.mono hS0.size)
                  refine hK.out _ _ hS42 (fun _ => ?_)
                  clear hK K
                  (try simp only [Act.put, List.setIfInBounds_toArray, List.set_cons_zero, List.set_cons_succ])
                  refine wpAnyH_take (i := 6) (oi := ⟨some 79, Op.pick (Operand.tmp 74) (Operand.tmp 78) (Operand.const (Value.bool false)), 4, _, _, none⟩) (v := ?vf26) rfl (by kernel_rfl) (by kernel_rfl) (by kernel_rfl) (fun _ _ _ h => h) (Or.inl ⟨by rfl, ?hf26⟩) hS42 ?rf26
                  case hf26 => (intro wz hSw; go_simp <;> with_reducible rfl)
                  (try simp only [Act.put, List.setIfInBounds_toArray, List.set_cons_zero, List.set_cons_succ])
                  refine wpAnyH_take (i := 7) (oi := ⟨some 80, Op.move (Operand.tmp 79), 4, _, _, none⟩) (v := ?vf27) rfl (by kernel_rfl) (by kernel_rfl) (by kernel_rfl) (fun _ _ _ h => h) (Or.inl ⟨by rfl, ?hf27⟩) hS42 ?rf27
                  case hf27 => (intro wz hSw; go_simp <;> with_reducible rfl)
                  (try simp only [Act.put, List.setIfInBounds_toArray, List.set_cons_zero, List.set_cons_succ])
                  refine wpAnyH_take (i := 8) (oi := ⟨some 81, Op.load 24 (Operand.tmp 12), 24, _, _, some (7, true)⟩) (v := ?vf28) rfl (by kernel_rfl) (by kernel_rfl) (by kernel_rfl) (fun _ _ _ h => h) (Or.inl ⟨by rfl, ?hf28⟩) hS42 ?rf28
                  case hf28 => (intro wz hSw; obtain ⟨k0, k1, k2, k3, k4, k5, k6⟩ := (HG9.out.of hSw).cells; obtain ⟨x0, x1, x2⟩ := (HX9.out.of hSw).cells; obtain ⟨y0, y1, y2⟩ := (HY9.out.of hSw).cells; have z0 := (HZ9.out.kept (hSw.block _ HZ9.out.lt)).cell0; have z1 := (HZ9.out.kept (hSw.block _ HZ9.out.lt)).cell1; go_simp <;> with_reducible rfl)
                  (try simp only [Act.put, List.setIfInBounds_toArray, List.set_cons_zero, List.set_cons_succ])
                  refine wpAnyH_take (i := 9) (oi := ⟨some 82, Op.load 26 (Operand.tmp 5), 26, _, _, some (7, true)⟩) (v := ?vf29) rfl (by kernel_rfl) (by kernel_rfl) (by kernel_rfl) (fun _ _ _ h => h) (Or.inl ⟨by rfl, ?hf29⟩) hS42 ?rf29
                  case hf29 => (intro wz hSw; obtain ⟨k0, k1, k2, k3, k4, k5, k6⟩ := (HG9.out.of hSw).cells; obtain ⟨x0, x1, x2⟩ := (HX9.out.of hSw).cells; obtain ⟨y0, y1, y2⟩ := (HY9.out.of hSw).cells; have z0 := (HZ9.out.kept (hSw.block _ HZ9.out.lt)).cell0; have z1 := (HZ9.out.kept (hSw.block _ HZ9.out.lt)).cell1; go_simp <;> with_reducible rfl)
                  (try simp only [Act.put, List.setIfInBounds_toArray, List.set_cons_zero, List.set_cons_succ])
                  refine wpAnyH_take (i := 10) (oi := ⟨some 83, Op.load 26 (Operand.tmp 6), 26, _, _, some (7, true)⟩) (v := ?vf210) rfl (by kernel_rfl) (by kernel_rfl) (by kernel_rfl) (fun _ _ _ h => h) (Or.inl ⟨by rfl, ?hf210⟩) hS42 ?rf210
                  case hf210 => (intro wz hSw; obtain ⟨k0, k1, k2, k3, k4, k5, k6⟩ := (HG9.out.of hSw).cells; obtain ⟨x0, x1, x2⟩ := (HX9.out.of hSw).cells; obtain ⟨y0, y1, y2⟩ := (HY9.out.of hSw).cells; have z0 := (HZ9.out.kept (hSw.block _ HZ9.out.lt)).cell0; have z1 := (HZ9.out.kept (hSw.block _ HZ9.out.lt)).cell1; go_simp <;> with_reducible rfl)
                  (try simp only [Act.put, List.setIfInBounds_toArray, List.set_cons_zero, List.set_cons_succ])
                  refine wpAnyH_ready (rs := [11]) (by kernel_rfl) (by simp) ?_
                  refine AllReadyH.cons (o := ⟨some 84, Op.call { callee := Callee.value (Operand.func 14), args := #[Operand.tmp 81, Operand.tmp 82, Operand.tmp 83], argTypes := #[24, 26, 26] }, 4, _, _, some (7, true)⟩) rfl (fun K hK => ?_) AllReadyH.nil
                  go_simp
                  (with_reducible refine (HSM.out _ hS42).mono ?_); rintro e v43 ⟨rfl, hB43⟩; have hS43 := hS42.trans (hB43.mono hS42.size)
                  refine hK.out _ _ hS43 (fun _ => ?_)
                  clear hK K
                  (try simp only [Act.put, List.setIfInBounds_toArray, List.set_cons_zero, List.set_cons_succ])
                  refine wpAnyH_take (i := 12) (oi := ⟨some 85, Op.unOp UnOp.not 4 (Operand.tmp 84), 4, _, _, some (7, true)⟩) (v := ?vf212) rfl (by kernel_rfl) (by kernel_rfl) (by kernel_rfl) (fun _ _ _ h => h) (Or.inl ⟨by rfl, ?hf212⟩) hS43 ?rf212
                  case hf212 => (intro wz hSw; go_simp <;> with_reducible rfl)
                  (try simp only [Act.put, List.setIfInBounds_toArray, List.set_cons_zero, List.set_cons_succ])
                  refine wpAnyH_take (i := 13) (oi := ⟨some 86, Op.move (Operand.tmp 85), 4, _, _, some (7, true)⟩) (v := ?vf213) rfl (by kernel_rfl) (by kernel_rfl) (by kernel_rfl) (fun _ _ _ h => h) (Or.inl ⟨by rfl, ?hf213⟩) hS43 ?rf213
                  case hf213 => (intro wz hSw; go_simp <;> with_reducible rfl)
                  (try simp only [Act.put, List.setIfInBounds_toArray, List.set_cons_zero, List.set_cons_succ])
                  refine wpAnyH_take (i := 14) (oi := ⟨some 87, Op.load 24 (Operand.tmp 4), 24, _, _, some (13, false)⟩) (v := undef) rfl (by kernel_rfl) (by kernel_rfl) (by kernel_rfl) (fun _ _ _ h => h) (Or.inr ⟨by rfl, rfl⟩) hS43 ?rf214
                  (try simp only [Act.put, List.setIfInBounds_toArray, List.set_cons_zero, List.set_cons_succ])
                  refine wpAnyH_take (i := 15) (oi := ⟨some 88, Op.load 26 (Operand.tmp 5), 26, _, _, some (13, false)⟩) (v := undef) rfl (by kernel_rfl) (by kernel_rfl) (by kernel_rfl) (fun _ _ _ h => h) (Or.inr ⟨by rfl, rfl⟩) hS43 ?rf215
                  (try simp only [Act.put, List.setIfInBounds_toArray, List.set_cons_zero, List.set_cons_succ])
                  refine wpAnyH_take (i := 16) (oi := ⟨some 89, Op.load 26 (Operand.tmp 6), 26, _, _, some (13, false)⟩) (v := undef) rfl (by kernel_rfl) (by kernel_rfl) (by kernel_rfl) (fun _ _ _ h => h) (Or.inr ⟨by rfl, rfl⟩) hS43 ?rf216
                  (try simp only [Act.put, List.setIfInBounds_toArray, List.set_cons_zero, List.set_cons_succ])
                  refine wpAnyH_take (i := 17) (oi := ⟨some 90, Op.call { callee := Callee.value (Operand.func 14), args := #[Operand.tmp 87, Operand.tmp 88, Operand.tmp 89], argTypes := #[24, 26, 26] }, 4, _, _, some (13, false)⟩) (v := undef) rfl (by kernel_rfl) (by kernel_rfl) (by kernel_rfl) (fun _ _ _ h => h) (Or.inr ⟨by rfl, rfl⟩) hS43 ?rf217
                  (try simp only [Act.put, List.setIfInBounds_toArray, List.set_cons_zero, List.set_cons_succ])
                  refine wpAnyH_take (i := 18) (oi := ⟨some 91, Op.pick (Operand.tmp 86) (Operand.const (Value.bool true)) (Operand.tmp 90), 4, _, _, some (7, true)⟩) (v := ?vf218) rfl (by kernel_rfl) (by kernel_rfl) (by kernel_rfl) (fun _ _ _ h => h) (Or.inl ⟨by rfl, ?hf218⟩) hS43 ?rf218
                  case hf218 => (intro wz hSw; go_simp <;> with_reducible rfl)
                  (try simp only [Act.put, List.setIfInBounds_toArray, List.set_cons_zero, List.set_cons_succ])
                  refine wpAnyH_take (i := 19) (oi := ⟨some 92, Op.pick (Operand.tmp 80) (Operand.tmp 91) (Operand.const (Value.bool false)), 4, _, _, none⟩) (v := ?vf219) rfl (by kernel_rfl) (by kernel_rfl) (by kernel_rfl) (fun _ _ _ h => h) (Or.inl ⟨by rfl, ?hf219⟩) hS43 ?rf219
                  case hf219 => (intro wz hSw; go_simp <;> with_reducible rfl)
                  (try simp only [Act.put, List.setIfInBounds_toArray, List.set_cons_zero, List.set_cons_succ])
                  refine wpAnyH_take (i := 20) (oi := ⟨some 93, Op.move (Operand.tmp 92), 4, _, _, none⟩) (v := ?vf220) rfl (by kernel_rfl) (by kernel_rfl) (by kernel_rfl) (fun _ _ _ h => h) (Or.inl ⟨by rfl, ?hf220⟩) hS43 ?rf220
                  case hf220 => (intro wz hSw; go_simp <;> with_reducible rfl)
                  (try simp only [Act.put, List.setIfInBounds_toArray, List.set_cons_zero, List.set_cons_succ])
                  refine wpAnyH_take (i := 21) (oi := ⟨some 94, Op.move (Operand.tmp 14), 4, _, _, some (20, true)⟩) (v := ?vf221) rfl (by kernel_rfl) (by kernel_rfl) (by kernel_rfl) (fun _ _ _ h => h) (Or.inl ⟨by rfl, ?hf221⟩) hS43 ?rf221
                  case hf221 => (intro wz hSw; go_simp <;> with_reducible rfl)
                  (try simp only [Act.put, List.setIfInBounds_toArray, List.set_cons_zero, List.set_cons_succ])
                  refine wpAnyH_take (i := 22) (oi := ⟨some 95, Op.load 24 (Operand.tmp 4), 24, _, _, some (20, true)⟩) (v := ?vf222) rfl (by kernel_rfl) (by kernel_rfl) (by kernel_rfl) (fun _ _ _ h => h) (Or.inl ⟨by rfl, ?hf222⟩) hS43 ?rf222
                  case hf222 => (intro wz hSw; obtain ⟨k0, k1, k2, k3, k4, k5, k6⟩ := (HG9.out.of hSw).cells; obtain ⟨x0, x1, x2⟩ := (HX9.out.of hSw).cells; obtain ⟨y0, y1, y2⟩ := (HY9.out.of hSw).cells; have z0 := (HZ9.out.kept (hSw.block _ HZ9.out.lt)).cell0; have z1 := (HZ9.out.kept (hSw.block _ HZ9.out.lt)).cell1; go_simp <;> with_reducible rfl)
                  (try simp only [Act.put, List.setIfInBounds_toArray, List.set_cons_zero, List.set_cons_succ])
                  refine wpAnyH_take (i := 23) (oi := ⟨some 96, Op.load 26 (Operand.tmp 5), 26, _, _, some (20, true)⟩) (v := ?vf223) rfl (by kernel_rfl) (by kernel_rfl) (by kernel_rfl) (fun _ _ _ h => h) (Or.inl ⟨by rfl, ?hf223⟩) hS43 ?rf223
                  case hf223 => (intro wz hSw; obtain ⟨k0, k1, k2, k3, k4, k5, k6⟩ := (HG9.out.of hSw).cells; obtain ⟨x0, x1, x2⟩ := (HX9.out.of hSw).cells; obtain ⟨y0, y1, y2⟩ := (HY9.out.of hSw).cells; have z0 := (HZ9.out.kept (hSw.block _ HZ9.out.lt)).cell0; have z1 := (HZ9.out.kept (hSw.block _ HZ9.out.lt)).cell1; go_simp <;> with_reducible rfl)
                  (try simp only [Act.put, List.setIfInBounds_toArray, List.set_cons_zero, List.set_cons_succ])
                  refine wpAnyH_take (i := 24) (oi := ⟨some 97, Op.load 26 (Operand.tmp 6), 26, _, _, some (20, true)⟩) (v := ?vf224) rfl (by kernel_rfl) (by kernel_rfl) (by kernel_rfl) (fun _ _ _ h => h) (Or.inl ⟨by rfl, ?hf224⟩) hS43 ?rf224
                  case hf224 => (intro wz hSw; obtain ⟨k0, k1, k2, k3, k4, k5, k6⟩ := (HG9.out.of hSw).cells; obtain ⟨x0, x1, x2⟩ := (HX9.out.of hSw).cells; obtain ⟨y0, y1, y2⟩ := (HY9.out.of hSw).cells; have z0 := (HZ9.out.kept (hSw.block _ HZ9.out.lt)).cell0; have z1 := (HZ9.out.kept (hSw.block _ HZ9.out.lt)).cell1; go_simp <;> with_reducible rfl)
                  (try simp only [Act.put, List.setIfInBounds_toArray, List.set_cons_zero, List.set_cons_succ])
                  refine wpAnyH_ready (rs := [25]) (by kernel_rfl) (by simp) ?_
                  refine AllReadyH.cons (o := ⟨some 98, Op.call { callee := Callee.value (Operand.func 14), args := #[Operand.tmp 95, Operand.tmp 96, Operand.tmp 97], argTypes := #[24, 26, 26] }, 4, _, _, some (20, true)⟩) rfl (fun K hK => ?_) AllReadyH.nil
                  go_simp
                  (with_reducible refine (HSG'.out _ hS43).mono ?_); rintro e v44 ⟨rfl, hB44⟩; have hS44 := hS43.trans (hB44.mono hS43.size)
                  refine hK.out _ _ hS44 (fun _ => ?_)
                  clear hK K
                  (try simp only [Act.put, List.setIfInBounds_toArray, List.set_cons_zero, List.set_cons_succ])
                  refine wpAnyH_take (i := 26) (oi := ⟨some 99, Op.binOp BinOp.neq 4 (Operand.tmp 94) (Operand.tmp 98) 4, 4, _, _, some (20, true)⟩) (v := ?vf226) rfl (by kernel_rfl) (by kernel_rfl) (by kernel_rfl) (fun _ _ _ h => h) (Or.inl ⟨by rfl, ?hf226⟩) hS44 ?rf226
                  case hf226 => (intro wz hSw; go_simp <;> with_reducible rfl)
                  (try simp only [Act.put, List.setIfInBounds_toArray, List.set_cons_zero, List.set_cons_succ])
                  refine wpAnyH_take (i := 27) (oi := ⟨some 100, Op.pick (Operand.tmp 93) (Operand.tmp 99) (Operand.const (Value.bool false)), 4, _, _, none⟩) (v := ?vf227) rfl (by kernel_rfl) (by kernel_rfl) (by kernel_rfl) (fun _ _ _ h => h) (Or.inl ⟨by rfl, ?hf227⟩) hS44 ?rf227
                  case hf227 => (intro wz hSw; go_simp <;> with_reducible rfl)
                  (try simp only [Act.put, List.setIfInBounds_toArray, List.set_cons_zero, List.set_cons_succ])
                  refine wpAnyH_take (i := 28) (oi := ⟨some 101, Op.move (Operand.tmp 100), 4, _, _, none⟩) (v := ?vf228) rfl (by kernel_rfl) (by kernel_rfl) (by kernel_rfl) (fun _ _ _ h => h) (Or.inl ⟨by rfl, ?hf228⟩) hS44 ?rf228
                  case hf228 => (intro wz hSw; go_simp <;> with_reducible rfl)
                  (try simp only [Act.put, List.setIfInBounds_toArray, List.set_cons_zero, List.set_cons_succ])
                  refine wpAnyH_take (i := 29) (oi := ⟨some 102, Op.move (Operand.tmp 14), 4, _, _, some (28, true)⟩) (v := ?vf229) rfl (by kernel_rfl) (by kernel_rfl) (by kernel_rfl) (fun _ _ _ h => h) (Or.inl ⟨by rfl, ?hf229⟩) hS44 ?rf229
                  case hf229 => (intro wz hSw; go_simp <;> with_reducible rfl)
                  (try simp only [Act.put, List.setIfInBounds_toArray, List.set_cons_zero, List.set_cons_succ])
                  refine wpAnyH_take (i := 30) (oi := ⟨some 103, Op.unOp UnOp.not 4 (Operand.tmp 102), 4, _, _, some (28, true)⟩) (v := ?vf230) rfl (by kernel_rfl) (by kernel_rfl) (by kernel_rfl) (fun _ _ _ h => h) (Or.inl ⟨by rfl, ?hf230⟩) hS44 ?rf230
                  case hf230 => (intro wz hSw; go_simp <;> with_reducible rfl)
                  (try simp only [Act.put, List.setIfInBounds_toArray, List.set_cons_zero, List.set_cons_succ])
                  refine wpAnyH_take (i := 31) (oi := ⟨some 104, Op.move (Operand.tmp 103), 4, _, _, some (28, true)⟩) (v := ?vf231) rfl (by kernel_rfl) (by kernel_rfl) (by kernel_rfl) (fun _ _ _ h => h) (Or.inl ⟨by rfl, ?hf231⟩) hS44 ?rf231
                  case hf231 => (intro wz hSw; go_simp <;> with_reducible rfl)
                  (try simp only [Act.put, List.setIfInBounds_toArray, List.set_cons_zero, List.set_cons_succ])
                  refine wpAnyH_take (i := 32) (oi := ⟨some 105, Op.load 24 (Operand.tmp 4), 24, _, _, some (31, false)⟩) (v := ?vf232) rfl (by kernel_rfl) (by kernel_rfl) (by kernel_rfl) (fun _ _ _ h => h) (Or.inl ⟨by rfl, ?hf232⟩) hS44 ?rf232
                  case hf232 => (intro wz hSw; obtain ⟨k0, k1, k2, k3, k4, k5, k6⟩ := (HG9.out.of hSw).cells; obtain ⟨x0, x1, x2⟩ := (HX9.out.of hSw).cells; obtain ⟨y0, y1, y2⟩ := (HY9.out.of hSw).cells; have z0 := (HZ9.out.kept (hSw.block _ HZ9.out.lt)).cell0; have z1 := (HZ9.out.kept (hSw.block _ HZ9.out.lt)).cell1; go_simp <;> with_reducible rfl)
                  (try simp only [Act.put, List.setIfInBounds_toArray, List.set_cons_zero, List.set_cons_succ])
                  refine wpAnyH_take (i := 33) (oi := ⟨some 106, Op.load 26 (Operand.tmp 13), 26, _, _, some (31, false)⟩) (v := ?vf233) rfl (by kernel_rfl) (by kernel_rfl) (by kernel_rfl) (fun _ _ _ h => h) (Or.inl ⟨by rfl, ?hf233⟩) hS44 ?rf233
                  case hf233 => (intro wz hSw; obtain ⟨k0, k1, k2, k3, k4, k5, k6⟩ := (HG9.out.of hSw).cells; obtain ⟨x0, x1, x2⟩ := (HX9.out.of hSw).cells; obtain ⟨y0, y1, y2⟩ := (HY9.out.of hSw).cells; have z0 := (HZ9.out.kept (hSw.block _ HZ9.out.lt)).cell0; have z1 := (HZ9.out.kept (hSw.block _ HZ9.out.lt)).cell1; go_simp <;> with_reducible rfl)
                  (try simp only [Act.put, List.setIfInBounds_toArray, List.set_cons_zero, List.set_cons_succ])
                  refine wpAnyH_ready (rs := [34]) (by kernel_rfl) (by simp) ?_
                  refine AllReadyH.cons (o := ⟨some 107, Op.call { callee := Callee.value (Operand.func 21), args := #[Operand.tmp 105, Operand.tmp 106], argTypes := #[24, 26] }, 4, _, _, some (31, false)⟩) rfl (fun K hK => ?_) AllReadyH.nil
                  go_simp
                  (with_reducible refine (HWL.out _ hS44).mono ?_); rintro e v45 ⟨rfl, hB45⟩; have hS45 := hS44.trans (hB45.mono hS44.size)
                  refine hK.out _ _ hS45 (fun _ => ?_)
                  clear hK K
                  (try simp only [Act.put, List.setIfInBounds_toArray, List.set_cons_zero, List.set_cons_succ])
                  refine wpAnyH_take (i := 35) (oi := ⟨some 108, Op.move (Operand.tmp 107), 4, _, _, some (31, false)⟩) (v := ?vf235) rfl (by kernel_rfl) (by kernel_rfl) (by kernel_rfl) (fun _ _ _ h => h) (Or.inl ⟨by rfl, ?hf235⟩) hS45 ?rf235
                  case hf235 => (intro wz hSw; go_simp <;> with_reducible rfl)
                  (try simp only [Act.put, List.setIfInBounds_toArray, List.set_cons_zero, List.set_cons_succ])
                  refine wpAnyH_take (i := 36) (oi := ⟨some 109, Op.load 24 (Operand.tmp 4), 24, _, _, some (35, true)⟩) (v := ?vf236) rfl (by kernel_rfl) (by kernel_rfl) (by kernel_rfl) (fun _ _ _ h => h) (Or.inl ⟨by rfl, ?hf236⟩) hS45 ?rf236
                  case hf236 => (intro wz hSw; obtain ⟨k0, k1, k2, k3, k4, k5, k6⟩ := (HG9.out.of hSw).cells; obtain ⟨x0, x1, x2⟩ := (HX9.out.of hSw).cells; obtain ⟨y0, y1, y2⟩ := (HY9.out.of hSw).cells; have z0 := (HZ9.out.kept (hSw.block _ HZ9.out.lt)).cell0; have z1 := (HZ9.out.kept (hSw.block _ HZ9.out.lt)).cell1; go_simp <;> with_reducible rfl)
                  (try simp only [Act.put, List.setIfInBounds_toArray, List.set_cons_zero, List.set_cons_succ])
                  refine wpAnyH_take (i := 37) (oi := ⟨some 110, Op.load 26 (Operand.tmp 5), 26, _, _, some (35, true)⟩) (v := ?vf237) rfl (by kernel_rfl) (by kernel_rfl) (by kernel_rfl) (fun _ _ _ h => h) (Or.inl ⟨by rfl, ?hf237⟩) hS45 ?rf237
                  case hf237 => (intro wz hSw; obtain ⟨k0, k1, k2, k3, k4, k5, k6⟩ := (HG9.out.of hSw).cells; obtain ⟨x0, x1, x2⟩ := (HX9.out.of hSw).cells; obtain ⟨y0, y1, y2⟩ := (HY9.out.of hSw).cells; have z0 := (HZ9.out.kept (hSw.block _ HZ9.out.lt)).cell0; have z1 := (HZ9.out.kept (hSw.block _ HZ9.out.lt)).cell1; go_simp <;> with_reducible rfl)
                  (try simp only [Act.put, List.setIfInBounds_toArray, List.set_cons_zero, List.set_cons_succ])
                  refine wpAnyH_take (i := 38) (oi := ⟨some 111, Op.load 26 (Operand.tmp 6), 26, _, _, some (35, true)⟩) (v := ?vf238) rfl (by kernel_rfl) (by kernel_rfl) (by kernel_rfl) (fun _ _ _ h => h) (Or.inl ⟨by rfl, ?hf238⟩) hS45 ?rf238
                  case hf238 => (intro wz hSw; obtain ⟨k0, k1, k2, k3, k4, k5, k6⟩ := (HG9.out.of hSw).cells; obtain ⟨x0, x1, x2⟩ := (HX9.out.of hSw).cells; obtain ⟨y0, y1, y2⟩ := (HY9.out.of hSw).cells; have z0 := (HZ9.out.kept (hSw.block _ HZ9.out.lt)).cell0; have z1 := (HZ9.out.kept (hSw.block _ HZ9.out.lt)).cell1; go_simp <;> with_reducible rfl)
                  (try simp only [Act.put, List.setIfInBounds_toArray, List.set_cons_zero, List.set_cons_succ])
                  refine wpAnyH_take (i := 40) (oi := ⟨some 113, Op.load 26 (Operand.tmp 13), 26, _, _, some (35, true)⟩) (v := ?vf240) rfl (by kernel_rfl) (by kernel_rfl) (by kernel_rfl) (fun _ _ _ h => h) (Or.inl ⟨by rfl, ?hf240⟩) hS45 ?rf240
                  case hf240 => (intro wz hSw; obtain ⟨k0, k1, k2, k3, k4, k5, k6⟩ := (HG9.out.of hSw).cells; obtain ⟨x0, x1, x2⟩ := (HX9.out.of hSw).cells; obtain ⟨y0, y1, y2⟩ := (HY9.out.of hSw).cells; have z0 := (HZ9.out.kept (hSw.block _ HZ9.out.lt)).cell0; have z1 := (HZ9.out.kept (hSw.block _ HZ9.out.lt)).cell1; go_simp <;> with_reducible rfl)
                  (try simp only [Act.put, List.setIfInBounds_toArray, List.set_cons_zero, List.set_cons_succ])
                  refine wpAnyH_ready (rs := [39]) (by kernel_rfl) (by simp) ?_
                  refine AllReadyH.cons (o := ⟨some 112, Op.call { callee := Callee.value (Operand.func 12), args := #[Operand.tmp 109, Operand.tmp 110, Operand.tmp 111], argTypes := #[24, 26, 26] }, 32, _, _, some (35, true)⟩) rfl (fun K hK => ?_) AllReadyH.nil
                  go_simp
                  (with_reducible refine (HLN.out _).mono ?_); rintro e v46 ⟨⟨A1, c1, rfl, hRt⟩, hB46⟩; have hS46 := hS45.trans (hB46.mono hS45.size)
                  refine hK.out _ _ hS46 (fun _ => ?_)
                  clear hK K
                  (try simp only [Act.put, List.setIfInBounds_toArray, List.set_cons_zero, List.set_cons_succ])
                  refine wpAnyH_ready (rs := [41]) (by kernel_rfl) (by simp) ?_
                  refine AllReadyH.cons (o := ⟨some 114, Op.call { callee := Callee.value (Operand.func 19), args := #[Operand.tmp 112, Operand.tmp 113], argTypes := #[32, 26] }, 4, _, _, some (35, true)⟩) rfl (fun K hK => ?_) AllReadyH.nil
                  go_simp
                  (with_reducible refine (HHS.out _ A1 c1 hRt).mono ?_); rintro e v47 ⟨rfl, hB47⟩; have hS47 := hS46.trans (hB47.mono hS46.size)
                  refine hK.out _ _ hS47 (fun _ => ?_)
                  clear hK K
                  (try simp only [Act.put, List.setIfInBounds_toArray, List.set_cons_zero, List.set_cons_succ])
                  refine wpAnyH_take (i := 42) (oi := ⟨some 115, Op.pick (Operand.tmp 108) (Operand.tmp 114) (Operand.const (Value.bool false)), 4, _, _, some (31, false)⟩) (v := ?vf242) rfl (by kernel_rfl) (by kernel_rfl) (by kernel_rfl) (fun _ _ _ h => h) (Or.inl ⟨by rfl, ?hf242⟩) hS47 ?rf242
                  case hf242 => (intro wz hSw; go_simp <;> with_reducible rfl)
                  (try simp only [Act.put, List.setIfInBounds_toArray, List.set_cons_zero, List.set_cons_succ])
                  refine wpAnyH_take (i := 43) (oi := ⟨some 116, Op.move (Operand.tmp 115), 4, _, _, some (31, false)⟩) (v := ?vf243) rfl (by kernel_rfl) (by kernel_rfl) (by kernel_rfl) (fun _ _ _ h => h) (Or.inl ⟨by rfl, ?hf243⟩) hS47 ?rf243
                  case hf243 => (intro wz hSw; go_simp <;> with_reducible rfl)
                  (try simp only [Act.put, List.setIfInBounds_toArray, List.set_cons_zero, List.set_cons_succ])
                  refine wpAnyH_take (i := 44) (oi := ⟨some 117, Op.load 26 (Operand.tmp 13), 26, _, _, some (43, true)⟩) (v := ?vf244) rfl (by kernel_rfl) (by kernel_rfl) (by kernel_rfl) (fun _ _ _ h => h) (Or.inl ⟨by rfl, ?hf244⟩) hS47 ?rf244
                  case hf244 => (intro wz hSw; obtain ⟨k0, k1, k2, k3, k4, k5, k6⟩ := (HG9.out.of hSw).cells; obtain ⟨x0, x1, x2⟩ := (HX9.out.of hSw).cells; obtain ⟨y0, y1, y2⟩ := (HY9.out.of hSw).cells; have z0 := (HZ9.out.kept (hSw.block _ HZ9.out.lt)).cell0; have z1 := (HZ9.out.kept (hSw.block _ HZ9.out.lt)).cell1; go_simp <;> with_reducible rfl)
                  (try simp only [Act.put, List.setIfInBounds_toArray, List.set_cons_zero, List.set_cons_succ])
                  refine wpAnyH_take (i := 45) (oi := ⟨some 118, Op.load 26 (Operand.tmp 5), 26, _, _, some (43, true)⟩) (v := ?vf245) rfl (by kernel_rfl) (by kernel_rfl) (by kernel_rfl) (fun _ _ _ h => h) (Or.inl ⟨by rfl, ?hf245⟩) hS47 ?rf245
                  case hf245 => (intro wz hSw; obtain ⟨k0, k1, k2, k3, k4, k5, k6⟩ := (HG9.out.of hSw).cells; obtain ⟨x0, x1, x2⟩ := (HX9.out.of hSw).cells; obtain ⟨y0, y1, y2⟩ := (HY9.out.of hSw).cells; have z0 := (HZ9.out.kept (hSw.block _ HZ9.out.lt)).cell0; have z1 := (HZ9.out.kept (hSw.block _ HZ9.out.lt)).cell1; go_simp <;> with_reducible rfl)
                  (try simp only [Act.put, List.setIfInBounds_toArray, List.set_cons_zero, List.set_cons_succ])
                  refine wpAnyH_take (i := 46) (oi := ⟨some 119, Op.binOp BinOp.neq 26 (Operand.tmp 117) (Operand.tmp 118) 26, 4, _, _, some (43, true)⟩) (v := ?vf246) rfl (by kernel_rfl) (by kernel_rfl) (by kernel_rfl) (fun _ _ _ h => h) (Or.inl ⟨by rfl, ?hf246⟩) hS47 ?rf246
                  case hf246 => (intro wz hSw; go_simp <;> with_reducible rfl)
                  (try simp only [Act.put, List.setIfInBounds_toArray, List.set_cons_zero, List.set_cons_succ])
                  refine wpAnyH_take (i := 47) (oi := ⟨some 120, Op.pick (Operand.tmp 116) (Operand.tmp 119) (Operand.const (Value.bool false)), 4, _, _, some (31, false)⟩) (v := ?vf247) rfl (by kernel_rfl) (by kernel_rfl) (by kernel_rfl) (fun _ _ _ h => h) (Or.inl ⟨by rfl, ?hf247⟩) hS47 ?rf247
                  case hf247 => (intro wz hSw; go_simp <;> with_reducible rfl)
                  (try simp only [Act.put, List.setIfInBounds_toArray, List.set_cons_zero, List.set_cons_succ])
                  refine wpAnyH_take (i := 48) (oi := ⟨some 121, Op.move (Operand.tmp 120), 4, _, _, some (31, false)⟩) (v := ?vf248) rfl (by kernel_rfl) (by kernel_rfl) (by kernel_rfl) (fun _ _ _ h => h) (Or.inl ⟨by rfl, ?hf248⟩) hS47 ?rf248
                  case hf248 => (intro wz hSw; go_simp <;> with_reducible rfl)
                  (try simp only [Act.put, List.setIfInBounds_toArray, List.set_cons_zero, List.set_cons_succ])
                  refine wpAnyH_take (i := 49) (oi := ⟨some 122, Op.load 26 (Operand.tmp 13), 26, _, _, some (48, true)⟩) (v := ?vf249) rfl (by kernel_rfl) (by kernel_rfl) (by kernel_rfl) (fun _ _ _ h => h) (Or.inl ⟨by rfl, ?hf249⟩) hS47 ?rf249
                  case hf249 => (intro wz hSw; obtain ⟨k0, k1, k2, k3, k4, k5, k6⟩ := (HG9.out.of hSw).cells; obtain ⟨x0, x1, x2⟩ := (HX9.out.of hSw).cells; obtain ⟨y0, y1, y2⟩ := (HY9.out.of hSw).cells; have z0 := (HZ9.out.kept (hSw.block _ HZ9.out.lt)).cell0; have z1 := (HZ9.out.kept (hSw.block _ HZ9.out.lt)).cell1; go_simp <;> with_reducible rfl)
                  (try simp only [Act.put, List.setIfInBounds_toArray, List.set_cons_zero, List.set_cons_succ])
                  refine wpAnyH_take (i := 50) (oi := ⟨some 123, Op.load 26 (Operand.tmp 6), 26, _, _, some (48, true)⟩) (v := ?vf250) rfl (by kernel_rfl) (by kernel_rfl) (by kernel_rfl) (fun _ _ _ h => h) (Or.inl ⟨by rfl, ?hf250⟩) hS47 ?rf250
                  case hf250 => (intro wz hSw; obtain ⟨k0, k1, k2, k3, k4, k5, k6⟩ := (HG9.out.of hSw).cells; obtain ⟨x0, x1, x2⟩ := (HX9.out.of hSw).cells; obtain ⟨y0, y1, y2⟩ := (HY9.out.of hSw).cells; have z0 := (HZ9.out.kept (hSw.block _ HZ9.out.lt)).cell0; have z1 := (HZ9.out.kept (hSw.block _ HZ9.out.lt)).cell1; go_simp <;> with_reducible rfl)
                  (try simp only [Act.put, List.setIfInBounds_toArray, List.set_cons_zero, List.set_cons_succ])
                  refine wpAnyH_take (i := 51) (oi := ⟨some 124, Op.binOp BinOp.neq 26 (Operand.tmp 122) (Operand.tmp 123) 26, 4, _, _, some (48, true)⟩) (v := ?vf251) rfl (by kernel_rfl) (by kernel_rfl) (by kernel_rfl) (fun _ _ _ h => h) (Or.inl ⟨by rfl, ?hf251⟩) hS47 ?rf251
                  case hf251 => (intro wz hSw; go_simp <;> with_reducible rfl)
                  (try simp only [Act.put, List.setIfInBounds_toArray, List.set_cons_zero, List.set_cons_succ])
                  refine wpAnyH_take (i := 52) (oi := ⟨some 125, Op.pick (Operand.tmp 121) (Operand.tmp 124) (Operand.const (Value.bool false)), 4, _, _, some (31, false)⟩) (v := ?vf252) rfl (by kernel_rfl) (by kernel_rfl) (by kernel_rfl) (fun _ _ _ h => h) (Or.inl ⟨by rfl, ?hf252⟩) hS47 ?rf252
                  case hf252 => (intro wz hSw; go_simp <;> with_reducible rfl)
                  (try simp only [Act.put, List.setIfInBounds_toArray, List.set_cons_zero, List.set_cons_succ])
                  refine wpAnyH_take (i := 53) (oi := ⟨some 126, Op.pick (Operand.tmp 104) (Operand.const (Value.bool true)) (Operand.tmp 125), 4, _, _, some (28, true)⟩) (v := ?vf253) rfl (by kernel_rfl) (by kernel_rfl) (by kernel_rfl) (fun _ _ _ h => h) (Or.inl ⟨by rfl, ?hf253⟩) hS47 ?rf253
                  case hf253 => (intro wz hSw; go_simp <;> with_reducible rfl)
                  (try simp only [Act.put, List.setIfInBounds_toArray, List.set_cons_zero, List.set_cons_succ])
                  refine wpAnyH_take (i := 54) (oi := ⟨some 127, Op.pick (Operand.tmp 101) (Operand.tmp 126) (Operand.const (Value.bool false)), 4, _, _, none⟩) (v := ?vf254) rfl (by kernel_rfl) (by kernel_rfl) (by kernel_rfl) (fun _ _ _ h => h) (Or.inl ⟨by rfl, ?hf254⟩) hS47 ?rf254
                  case hf254 => (intro wz hSw; go_simp <;> with_reducible rfl)
                  (try simp only [Act.put, List.setIfInBounds_toArray, List.set_cons_zero, List.set_cons_succ])
                  refine wpAnyH_take (i := 55) (oi := ⟨some 128, Op.move (Operand.tmp 127), 4, _, _, none⟩) (v := ?vf255) rfl (by kernel_rfl) (by kernel_rfl) (by kernel_rfl) (fun _ _ _ h => h) (Or.inl ⟨by rfl, ?hf255⟩) hS47 ?rf255
                  case hf255 => (intro wz hSw; go_simp <;> with_reducible rfl)
                  (try simp only [Act.put, List.setIfInBounds_toArray, List.set_cons_zero, List.set_cons_succ])
                  refine wpAnyH_take (i := 56) (oi := ⟨some 129, Op.load 24 (Operand.tmp 4), 24, _, _, some (55, true)⟩) (v := ?vf256) rfl (by kernel_rfl) (by kernel_rfl) (by kernel_rfl) (fun _ _ _ h => h) (Or.inl ⟨by rfl, ?hf256⟩) hS47 ?rf256
                  case hf256 => (intro wz hSw; obtain ⟨k0, k1, k2, k3, k4, k5, k6⟩ := (HG9.out.of hSw).cells; obtain ⟨x0, x1, x2⟩ := (HX9.out.of hSw).cells; obtain ⟨y0, y1, y2⟩ := (HY9.out.of hSw).cells; have z0 := (HZ9.out.kept (hSw.block _ HZ9.out.lt)).cell0; have z1 := (HZ9.out.kept (hSw.block _ HZ9.out.lt)).cell1; go_simp <;> with_reducible rfl)
                  (try simp only [Act.put, List.setIfInBounds_toArray, List.set_cons_zero, List.set_cons_succ])
                  refine wpAnyH_take (i := 57) (oi := ⟨some 130, Op.load 26 (Operand.tmp 5), 26, _, _, some (55, true)⟩) (v := ?vf257) rfl (by kernel_rfl) (by kernel_rfl) (by kernel_rfl) (fun _ _ _ h => h) (Or.inl ⟨by rfl, ?hf257⟩) hS47 ?rf257
                  case hf257 => (intro wz hSw; obtain ⟨k0, k1, k2, k3, k4, k5, k6⟩ := (HG9.out.of hSw).cells; obtain ⟨x0, x1, x2⟩ := (HX9.out.of hSw).cells; obtain ⟨y0, y1, y2⟩ := (HY9.out.of hSw).cells; have z0 := (HZ9.out.kept (hSw.block _ HZ9.out.lt)).cell0; have z1 := (HZ9.out.kept (hSw.block _ HZ9.out.lt)).cell1; go_simp <;> with_reducible rfl)
                  (try simp only [Act.put, List.setIfInBounds_toArray, List.set_cons_zero, List.set_cons_succ])
                  refine wpAnyH_take (i := 58) (oi := ⟨some 131, Op.load 26 (Operand.tmp 5), 26, _, _, some (55, true)⟩) (v := ?vf258) rfl (by kernel_rfl) (by kernel_rfl) (by kernel_rfl) (fun _ _ _ h => h) (Or.inl ⟨by rfl, ?hf258⟩) hS47 ?rf258
                  case hf258 => (intro wz hSw; obtain ⟨k0, k1, k2, k3, k4, k5, k6⟩ := (HG9.out.of hSw).cells; obtain ⟨x0, x1, x2⟩ := (HX9.out.of hSw).cells; obtain ⟨y0, y1, y2⟩ := (HY9.out.of hSw).cells; have z0 := (HZ9.out.kept (hSw.block _ HZ9.out.lt)).cell0; have z1 := (HZ9.out.kept (hSw.block _ HZ9.out.lt)).cell1; go_simp <;> with_reducible rfl)
                  (try simp only [Act.put, List.setIfInBounds_toArray, List.set_cons_zero, List.set_cons_succ])
                  refine wpAnyH_ready (rs := [59]) (by kernel_rfl) (by simp) ?_
                  refine AllReadyH.cons (o := ⟨some 132, Op.call { callee := Callee.value (Operand.func 14), args := #[Operand.tmp 129, Operand.tmp 130, Operand.tmp 131], argTypes := #[24, 26, 26] }, 4, _, _, some (55, true)⟩) rfl (fun K hK => ?_) AllReadyH.nil
                  go_simp
                  (with_reducible refine (HSA.out _ hS47).mono ?_); rintro e v48 ⟨rfl, hB48⟩; have hS48 := hS47.trans (hB48.mono hS47.size)
                  refine hK.out _ _ hS48 (fun _ => ?_)
                  clear hK K
                  (try simp only [Act.put, List.setIfInBounds_toArray, List.set_cons_zero, List.set_cons_succ])
                  refine wpAnyH_take (i := 60) (oi := ⟨some 133, Op.pick (Operand.tmp 128) (Operand.tmp 132) (Operand.const (Value.bool false)), 4, _, _, none⟩) (v := ?vf260) rfl (by kernel_rfl) (by kernel_rfl) (by kernel_rfl) (fun _ _ _ h => h) (Or.inl ⟨by rfl, ?hf260⟩) hS48 ?rf260
                  case hf260 => (intro wz hSw; go_simp <;> with_reducible rfl)
                  (try simp only [Act.put, List.setIfInBounds_toArray, List.set_cons_zero, List.set_cons_succ])
                  refine wpAnyH_take (i := 61) (oi := ⟨some 8, Op.assign (Operand.tmp 133), 4, _, _, none⟩) (v := ?vf261) rfl (by kernel_rfl) (by kernel_rfl) (by kernel_rfl) (fun _ _ _ h => h) (Or.inl ⟨by rfl, ?hf261⟩) hS48 ?rf261
                  case hf261 => (intro wz hSw; go_simp <;> with_reducible rfl)
                  (try simp only [Act.put, List.setIfInBounds_toArray, List.set_cons_zero, List.set_cons_succ])
                  refine wpAnyH_done (by kernel_rfl) ?_ _
                  refine NoPanic.normal ?_
                  have hfin := HB9W.out.trans (hS48.mono HB9W.out.size)
                  go_wp2
                  go_ret
                  exact ⟨rfl, hfin⟩
                · have r3 : (px == bx) = false := by simpa using qb
                  clear qb hnb
                  refine wp_region_noPanic ?_
                  refine wp_region_held_drew (S := fun w' => Below w9.heap.size w9 w') (by kernel_rfl) hS0 (fun _ => ?_)
                  refine wpAnyH_take (i := 0) (oi := ⟨some 73, Op.move (Operand.tmp 9), 4, _, _, none⟩) (v := ?vf30) rfl (by kernel_rfl) (by kernel_rfl) (by kernel_rfl) (fun _ _ _ h => h) (Or.inl ⟨by rfl, ?hf30⟩) hS0 ?rf30
                  case hf30 => (intro wz hSw; go_simp <;> with_reducible rfl)
                  (try simp only [Act.put, List.setIfInBounds_toArray, List.set_cons_zero, List.set_cons_succ])
                  refine wpAnyH_take (i := 1) (oi := ⟨some 74, Op.move (Operand.tmp 73), 4, _, _, none⟩) (v := ?vf31) rfl (by kernel_rfl) (by kernel_rfl) (by kernel_rfl) (fun _ _ _ h => h) (Or.inl ⟨by rfl, ?hf31⟩) hS0 ?rf31
                  case hf31 => (intro wz hSw; go_simp <;> with_reducible rfl)
                  (try simp only [Act.put, List.setIfInBounds_toArray, List.set_cons_zero, List.set_cons_succ])
                  refine wpAnyH_take (i := 2) (oi := ⟨some 75, Op.load 24 (Operand.tmp 11), 24, _, _, some (1, true)⟩) (v := ?vf32) rfl (by kernel_rfl) (by kernel_rfl) (by kernel_rfl) (fun _ _ _ h => h) (Or.inl ⟨by rfl, ?hf32⟩) hS0 ?rf32
                  case hf32 => (intro wz hSw; obtain ⟨k0, k1, k2, k3, k4, k5, k6⟩ := (HG9.out.of hSw).cells; obtain ⟨x0, x1, x2⟩ := (HX9.out.of hSw).cells; obtain ⟨y0, y1, y2⟩ := (HY9.out.of hSw).cells; have z0 := (HZ9.out.kept (hSw.block _ HZ9.out.lt)).cell0; have z1 := (HZ9.out.kept (hSw.block _ HZ9.out.lt)).cell1; go_simp <;> with_reducible rfl)
                  (try simp only [Act.put, List.setIfInBounds_toArray, List.set_cons_zero, List.set_cons_succ])
                  refine wpAnyH_take (i := 3) (oi := ⟨some 76, Op.load 26 (Operand.tmp 5), 26, _, _, some (1, true)⟩) (v := ?vf33) rfl (by kernel_rfl) (by kernel_rfl) (by kernel_rfl) (fun _ _ _ h => h) (Or.inl ⟨by rfl, ?hf33⟩) hS0 ?rf33
                  case hf33 => (intro wz hSw; obtain ⟨k0, k1, k2, k3, k4, k5, k6⟩ := (HG9.out.of hSw).cells; obtain ⟨x0, x1, x2⟩ := (HX9.out.of hSw).cells; obtain ⟨y0, y1, y2⟩ := (HY9.out.of hSw).cells; have z0 := (HZ9.out.kept (hSw.block _ HZ9.out.lt)).cell0; have z1 := (HZ9.out.kept (hSw.block _ HZ9.out.lt)).cell1; go_simp <;> with_reducible rfl)
                  (try simp only [Act.put, List.setIfInBounds_toArray, List.set_cons_zero, List.set_cons_succ])
                  refine wpAnyH_take (i := 4) (oi := ⟨some 77, Op.load 26 (Operand.tmp 6), 26, _, _, some (1, true)⟩) (v := ?vf34) rfl (by kernel_rfl) (by kernel_rfl) (by kernel_rfl) (fun _ _ _ h => h) (Or.inl ⟨by rfl, ?hf34⟩) hS0 ?rf34
                  case hf34 => (intro wz hSw; obtain ⟨k0, k1, k2, k3, k4, k5, k6⟩ := (HG9.out.of hSw).cells; obtain ⟨x0, x1, x2⟩ := (HX9.out.of hSw).cells; obtain ⟨y0, y1, y2⟩ := (HY9.out.of hSw).cells; have z0 := (HZ9.out.kept (hSw.block _ HZ9.out.lt)).cell0; have z1 := (HZ9.out.kept (hSw.block _ HZ9.out.lt)).cell1; go_simp <;> with_reducible rfl)
                  (try simp only [Act.put, List.setIfInBounds_toArray, List.set_cons_zero, List.set_cons_succ])
                  refine wpAnyH_ready (rs := [5]) (by kernel_rfl) (by simp) ?_
                  refine AllReadyH.cons (o := ⟨some 78, Op.call { callee := Callee.value (Operand.func 14), args := #[Operand.tmp 75, Operand.tmp 76, Operand.tmp 77], argTypes := #[24, 26, 26] }, 4, _, _, some (1, true)⟩) rfl (fun K hK => ?_) AllReadyH.nil
                  go_simp
                  (with_reducible refine (HSO.out _ hS0).mono ?_); rintro e v49 ⟨rfl, hB49⟩; have hS49 := hS0.trans (hB49.mono hS0.size)
                  refine hK.out _ _ hS49 (fun _ => ?_)
                  clear hK K
                  (try simp only [Act.put, List.setIfInBounds_toArray, List.set_cons_zero, List.set_cons_succ])
                  refine wpAnyH_take (i := 6) (oi := ⟨some 79, Op.pick (Operand.tmp 74) (Operand.tmp 78) (Operand.const (Value.bool false)), 4, _, _, none⟩) (v := ?vf36) rfl (by kernel_rfl) (by kernel_rfl) (by kernel_rfl) (fun _ _ _ h => h) (Or.inl ⟨by rfl, ?hf36⟩) hS49 ?rf36
                  case hf36 => (intro wz hSw; go_simp <;> with_reducible rfl)
                  (try simp only [Act.put, List.setIfInBounds_toArray, List.set_cons_zero, List.set_cons_succ])
                  refine wpAnyH_take (i := 7) (oi := ⟨some 80, Op.move (Operand.tmp 79), 4, _, _, none⟩) (v := ?vf37) rfl (by kernel_rfl) (by kernel_rfl) (by kernel_rfl) (fun _ _ _ h => h) (Or.inl ⟨by rfl, ?hf37⟩) hS49 ?rf37
                  case hf37 => (intro wz hSw; go_simp <;> with_reducible rfl)
                  (try simp only [Act.put, List.setIfInBounds_toArray, List.set_cons_zero, List.set_cons_succ])
                  refine wpAnyH_take (i := 8) (oi := ⟨some 81, Op.load 24 (Operand.tmp 12), 24, _, _, some (7, true)⟩) (v := ?vf38) rfl (by kernel_rfl) (by kernel_rfl) (by kernel_rfl) (fun _ _ _ h => h) (Or.inl ⟨by rfl, ?hf38⟩) hS49 ?rf38
                  case hf38 => (intro wz hSw; obtain ⟨k0, k1, k2, k3, k4, k5, k6⟩ := (HG9.out.of hSw).cells; obtain ⟨x0, x1, x2⟩ := (HX9.out.of hSw).cells; obtain ⟨y0, y1, y2⟩ := (HY9.out.of hSw).cells; have z0 := (HZ9.out.kept (hSw.block _ HZ9.out.lt)).cell0; have z1 := (HZ9.out.kept (hSw.block _ HZ9.out.lt)).cell1; go_simp <;> with_reducible rfl)
                  (try simp only [Act.put, List.setIfInBounds_toArray, List.set_cons_zero, List.set_cons_succ])
                  refine wpAnyH_take (i := 9) (oi := ⟨some 82, Op.load 26 (Operand.tmp 5), 26, _, _, some (7, true)⟩) (v := ?vf39) rfl (by kernel_rfl) (by kernel_rfl) (by kernel_rfl) (fun _ _ _ h => h) (Or.inl ⟨by rfl, ?hf39⟩) hS49 ?rf39
                  case hf39 => (intro wz hSw; obtain ⟨k0, k1, k2, k3, k4, k5, k6⟩ := (HG9.out.of hSw).cells; obtain ⟨x0, x1, x2⟩ := (HX9.out.of hSw).cells; obtain ⟨y0, y1, y2⟩ := (HY9.out.of hSw).cells; have z0 := (HZ9.out.kept (hSw.block _ HZ9.out.lt)).cell0; have z1 := (HZ9.out.kept (hSw.block _ HZ9.out.lt)).cell1; go_simp <;> with_reducible rfl)
                  (try simp only [Act.put, List.setIfInBounds_toArray, List.set_cons_zero, List.set_cons_succ])
                  refine wpAnyH_take (i := 10) (oi := ⟨some 83, Op.load 26 (Operand.tmp 6), 26, _, _, some (7, true)⟩) (v := ?vf310) rfl (by kernel_rfl) (by kernel_rfl) (by kernel_rfl) (fun _ _ _ h => h) (Or.inl ⟨by rfl, ?hf310⟩) hS49 ?rf310
                  case hf310 => (intro wz hSw; obtain ⟨k0, k1, k2, k3, k4, k5, k6⟩ := (HG9.out.of hSw).cells; obtain ⟨x0, x1, x2⟩ := (HX9.out.of hSw).cells; obtain ⟨y0, y1, y2⟩ := (HY9.out.of hSw).cells; have z0 := (HZ9.out.kept (hSw.block _ HZ9.out.lt)).cell0; have z1 := (HZ9.out.kept (hSw.block _ HZ9.out.lt)).cell1; go_simp <;> with_reducible rfl)
                  (try simp only [Act.put, List.setIfInBounds_toArray, List.set_cons_zero, List.set_cons_succ])
                  refine wpAnyH_ready (rs := [11]) (by kernel_rfl) (by simp) ?_
                  refine AllReadyH.cons (o := ⟨some 84, Op.call { callee := Callee.value (Operand.func 14), args := #[Operand.tmp 81, Operand.tmp 82, Operand.tmp 83], argTypes := #[24, 26, 26] }, 4, _, _, some (7, true)⟩) rfl (fun K hK => ?_) AllReadyH.nil
                  go_simp
                  (with_reducible refine (HSM.out _ hS49).mono ?_); rintro e v50 ⟨rfl, hB50⟩; have hS50 := hS49.trans (hB50.mono hS49.size)
                  refine hK.out _ _ hS50 (fun _ => ?_)
                  clear hK K
                  (try simp only [Act.put, List.setIfInBounds_toArray, List.set_cons_zero, List.set_cons_succ])
                  refine wpAnyH_take (i := 12) (oi := ⟨some 85, Op.unOp UnOp.not 4 (Operand.tmp 84), 4, _, _, some (7, true)⟩) (v := ?vf312) rfl (by kernel_rfl) (by kernel_rfl) (by kernel_rfl) (fun _ _ _ h => h) (Or.inl ⟨by rfl, ?hf312⟩) hS50 ?rf312
                  case hf312 => (intro wz hSw; go_simp <;> with_reducible rfl)
                  (try simp only [Act.put, List.setIfInBounds_toArray, List.set_cons_zero, List.set_cons_succ])
                  refine wpAnyH_take (i := 13) (oi := ⟨some 86, Op.move (Operand.tmp 85), 4, _, _, some (7, true)⟩) (v := ?vf313) rfl (by kernel_rfl) (by kernel_rfl) (by kernel_rfl) (fun _ _ _ h => h) (Or.inl ⟨by rfl, ?hf313⟩) hS50 ?rf313
                  case hf313 => (intro wz hSw; go_simp <;> with_reducible rfl)
                  (try simp only [Act.put, List.setIfInBounds_toArray, List.set_cons_zero, List.set_cons_succ])
                  refine wpAnyH_take (i := 14) (oi := ⟨some 87, Op.load 24 (Operand.tmp 4), 24, _, _, some (13, false)⟩) (v := undef) rfl (by kernel_rfl) (by kernel_rfl) (by kernel_rfl) (fun _ _ _ h => h) (Or.inr ⟨by rfl, rfl⟩) hS50 ?rf314
                  (try simp only [Act.put, List.setIfInBounds_toArray, List.set_cons_zero, List.set_cons_succ])
                  refine wpAnyH_take (i := 15) (oi := ⟨some 88, Op.load 26 (Operand.tmp 5), 26, _, _, some (13, false)⟩) (v := undef) rfl (by kernel_rfl) (by kernel_rfl) (by kernel_rfl) (fun _ _ _ h => h) (Or.inr ⟨by rfl, rfl⟩) hS50 ?rf315
                  (try simp only [Act.put, List.setIfInBounds_toArray, List.set_cons_zero, List.set_cons_succ])
                  refine wpAnyH_take (i := 16) (oi := ⟨some 89, Op.load 26 (Operand.tmp 6), 26, _, _, some (13, false)⟩) (v := undef) rfl (by kernel_rfl) (by kernel_rfl) (by kernel_rfl) (fun _ _ _ h => h) (Or.inr ⟨by rfl, rfl⟩) hS50 ?rf316
                  (try simp only [Act.put, List.setIfInBounds_toArray, List.set_cons_zero, List.set_cons_succ])
                  refine wpAnyH_take (i := 17) (oi := ⟨some 90, Op.call { callee := Callee.value (Operand.func 14), args := #[Operand.tmp 87, Operand.tmp 88, Operand.tmp 89], argTypes := #[24, 26, 26] }, 4, _, _, some (13, false)⟩) (v := undef) rfl (by kernel_rfl) (by kernel_rfl) (by kernel_rfl) (fun _ _ _ h => h) (Or.inr ⟨by rfl, rfl⟩) hS50 ?rf317
                  (try simp only [Act.put, List.setIfInBounds_toArray, List.set_cons_zero, List.set_cons_succ])
                  refine wpAnyH_take (i := 18) (oi := ⟨some 91, Op.pick (Operand.tmp 86) (Operand.const (Value.bool true)) (Operand.tmp 90), 4, _, _, some (7, true)⟩) (v := ?vf318) rfl (by kernel_rfl) (by kernel_rfl) (by kernel_rfl) (fun _ _ _ h => h) (Or.inl ⟨by rfl, ?hf318⟩) hS50 ?rf318
                  case hf318 => (intro wz hSw; go_simp <;> with_reducible rfl)
                  (try simp only [Act.put, List.setIfInBounds_toArray, List.set_cons_zero, List.set_cons_succ])
                  refine wpAnyH_take (i := 19) (oi := ⟨some 92, Op.pick (Operand.tmp 80) (Operand.tmp 91) (Operand.const (Value.bool false)), 4, _, _, none⟩) (v := ?vf319) rfl (by kernel_rfl) (by kernel_rfl) (by kernel_rfl) (fun _ _ _ h => h) (Or.inl ⟨by rfl, ?hf319⟩) hS50 ?rf319
                  case hf319 => (intro wz hSw; go_simp <;> with_reducible rfl)
                  (try simp only [Act.put, List.setIfInBounds_toArray, List.set_cons_zero, List.set_cons_succ])
                  refine wpAnyH_take (i := 20) (oi := ⟨some 93, Op.move (Operand.tmp 92), 4, _, _, none⟩) (v := ?vf320) rfl (by kernel_rfl) (by kernel_rfl) (by kernel_rfl) (fun _ _ _ h => h) (Or.inl ⟨by rfl, ?hf320⟩) hS50 ?rf320
                  case hf320 => (intro wz hSw; go_simp <;> with_reducible rfl)
                  (try simp only [Act.put, List.setIfInBounds_toArray, List.set_cons_zero, List.set_cons_succ])
                  refine wpAnyH_take (i := 21) (oi := ⟨some 94, Op.move (Operand.tmp 14), 4, _, _, some (20, true)⟩) (v := ?vf321) rfl (by kernel_rfl) (by kernel_rfl) (by kernel_rfl) (fun _ _ _ h => h) (Or.inl ⟨by rfl, ?hf321⟩) hS50 ?rf321
                  case hf321 => (intro wz hSw; go_simp <;> with_reducible rfl)
                  (try simp only [Act.put, List.setIfInBounds_toArray, List.set_cons_zero, List.set_cons_succ])
                  refine wpAnyH_take (i := 22) (oi := ⟨some 95, Op.load 24 (Operand.tmp 4), 24, _, _, some (20, true)⟩) (v := ?vf322) rfl (by kernel_rfl) (by kernel_rfl) (by kernel_rfl) (fun _ _ _ h => h) (Or.inl ⟨by rfl, ?hf322⟩) hS50 ?rf322
                  case hf322 => (intro wz hSw; obtain ⟨k0, k1, k2, k3, k4, k5, k6⟩ := (HG9.out.of hSw).cells; obtain ⟨x0, x1, x2⟩ := (HX9.out.of hSw).cells; obtain ⟨y0, y1, y2⟩ := (HY9.out.of hSw).cells; have z0 := (HZ9.out.kept (hSw.block _ HZ9.out.lt)).cell0; have z1 := (HZ9.out.kept (hSw.block _ HZ9.out.lt)).cell1; go_simp <;> with_reducible rfl)
                  (try simp only [Act.put, List.setIfInBounds_toArray, List.set_cons_zero, List.set_cons_succ])
                  refine wpAnyH_take (i := 23) (oi := ⟨some 96, Op.load 26 (Operand.tmp 5), 26, _, _, some (20, true)⟩) (v := ?vf323) rfl (by kernel_rfl) (by kernel_rfl) (by kernel_rfl) (fun _ _ _ h => h) (Or.inl ⟨by rfl, ?hf323⟩) hS50 ?rf323
                  case hf323 => (intro wz hSw; obtain ⟨k0, k1, k2, k3, k4, k5, k6⟩ := (HG9.out.of hSw).cells; obtain ⟨x0, x1, x2⟩ := (HX9.out.of hSw).cells; obtain ⟨y0, y1, y2⟩ := (HY9.out.of hSw).cells; have z0 := (HZ9.out.kept (hSw.block _ HZ9.out.lt)).cell0; have z1 := (HZ9.out.kept (hSw.block _ HZ9.out.lt)).cell1; go_simp <;> with_reducible rfl)
                  (try simp only [Act.put, List.setIfInBounds_toArray, List.set_cons_zero, List.set_cons_succ])
                  refine wpAnyH_take (i := 24) (oi := ⟨some 97, Op.load 26 (Operand.tmp 6), 26, _, _, some (20, true)⟩) (v := ?vf324) rfl (by kernel_rfl) (by kernel_rfl) (by kernel_rfl) (fun _ _ _ h => h) (Or.inl ⟨by rfl, ?hf324⟩) hS50 ?rf324
                  case hf324 => (intro wz hSw; obtain ⟨k0, k1, k2, k3, k4, k5, k6⟩ := (HG9.out.of hSw).cells; obtain ⟨x0, x1, x2⟩ := (HX9.out.of hSw).cells; obtain ⟨y0, y1, y2⟩ := (HY9.out.of hSw).cells; have z0 := (HZ9.out.kept (hSw.block _ HZ9.out.lt)).cell0; have z1 := (HZ9.out.kept (hSw.block _ HZ9.out.lt)).cell1; go_simp <;> with_reducible rfl)
                  (try simp only [Act.put, List.setIfInBounds_toArray, List.set_cons_zero, List.set_cons_succ])
                  refine wpAnyH_ready (rs := [25]) (by kernel_rfl) (by simp) ?_
                  refine AllReadyH.cons (o := ⟨some 98, Op.call { callee := Callee.value (Operand.func 14), args := #[Operand.tmp 95, Operand.tmp 96, Operand.tmp 97], argTypes := #[24, 26, 26] }, 4, _, _, some (20, true)⟩) rfl (fun K hK => ?_) AllReadyH.nil
                  go_simp
                  (with_reducible refine (HSG'.out _ hS50).mono ?_); rintro e v51 ⟨rfl, hB51⟩; have hS51 := hS50.trans (hB51.mono hS50.size)
                  refine hK.out _ _ hS51 (fun _ => ?_)
                  clear hK K
                  (try simp only [Act.put, List.setIfInBounds_toArray, List.set_cons_zero, List.set_cons_succ])
                  refine wpAnyH_take (i := 26) (oi := ⟨some 99, Op.binOp BinOp.neq 4 (Operand.tmp 94) (Operand.tmp 98) 4, 4, _, _, some (20, true)⟩) (v := ?vf326) rfl (by kernel_rfl) (by kernel_rfl) (by kernel_rfl) (fun _ _ _ h => h) (Or.inl ⟨by rfl, ?hf326⟩) hS51 ?rf326
                  case hf326 => (intro wz hSw; go_simp <;> with_reducible rfl)
                  (try simp only [Act.put, List.setIfInBounds_toArray, List.set_cons_zero, List.set_cons_succ])
                  refine wpAnyH_take (i := 27) (oi := ⟨some 100, Op.pick (Operand.tmp 93) (Operand.tmp 99) (Operand.const (Value.bool false)), 4, _, _, none⟩) (v := ?vf327) rfl (by kernel_rfl) (by kernel_rfl) (by kernel_rfl) (fun _ _ _ h => h) (Or.inl ⟨by rfl, ?hf327⟩) hS51 ?rf327
                  case hf327 => (intro wz hSw; go_simp <;> with_reducible rfl)
                  (try simp only [Act.put, List.setIfInBounds_toArray, List.set_cons_zero, List.set_cons_succ])
                  refine wpAnyH_take (i := 28) (oi := ⟨some 101, Op.move (Operand.tmp 100), 4, _, _, none⟩) (v := ?vf328) rfl (by kernel_rfl) (by kernel_rfl) (by kernel_rfl) (fun _ _ _ h => h) (Or.inl ⟨by rfl, ?hf328⟩) hS51 ?rf328
                  case hf328 => (intro wz hSw; go_simp <;> with_reducible rfl)
                  (try simp only [Act.put, List.setIfInBounds_toArray, List.set_cons_zero, List.set_cons_succ])
                  refine wpAnyH_take (i := 29) (oi := ⟨some 102, Op.move (Operand.tmp 14), 4, _, _, some (28, true)⟩) (v := ?vf329) rfl (by kernel_rfl) (by kernel_rfl) (by kernel_rfl) (fun _ _ _ h => h) (Or.inl ⟨by rfl, ?hf329⟩) hS51 ?rf329
                  case hf329 => (intro wz hSw; go_simp <;> with_reducible rfl)
                  (try simp only [Act.put, List.setIfInBounds_toArray, List.set_cons_zero, List.set_cons_succ])
                  refine wpAnyH_take (i := 30) (oi := ⟨some 103, Op.unOp UnOp.not 4 (Operand.tmp 102), 4, _, _, some (28, true)⟩) (v := ?vf330) rfl (by kernel_rfl) (by kernel_rfl) (by kernel_rfl) (fun _ _ _ h => h) (Or.inl ⟨by rfl, ?hf330⟩) hS51 ?rf330
                  case hf330 => (intro wz hSw; go_simp <;> with_reducible rfl)
                  (try simp only [Act.put, List.setIfInBounds_toArray, List.set_cons_zero, List.set_cons_succ])
                  refine wpAnyH_take (i := 31) (oi := ⟨some 104, Op.move (Operand.tmp 103), 4, _, _, some (28, true)⟩) (v := ?vf331) rfl (by kernel_rfl) (by kernel_rfl) (by kernel_rfl) (fun _ _ _ h => h) (Or.inl ⟨by rfl, ?hf331⟩) hS51 ?rf331
                  case hf331 => (intro wz hSw; go_simp <;> with_reducible rfl)
                  (try simp only [Act.put, List.setIfInBounds_toArray, List.set_cons_zero, List.set_cons_succ])
                  refine wpAnyH_take (i := 32) (oi := ⟨some 105, Op.load 24 (Operand.tmp 4), 24, _, _, some (31, false)⟩) (v := ?vf332) rfl (by kernel_rfl) (by kernel_rfl) (by kernel_rfl) (fun _ _ _ h => h) (Or.inl ⟨by rfl, ?hf332⟩) hS51 ?rf332
                  case hf332 => (intro wz hSw; obtain ⟨k0, k1, k2, k3, k4, k5, k6⟩ := (HG9.out.of hSw).cells; obtain ⟨x0, x1, x2⟩ := (HX9.out.of hSw).cells; obtain ⟨y0, y1, y2⟩ := (HY9.out.of hSw).cells; have z0 := (HZ9.out.kept (hSw.block _ HZ9.out.lt)).cell0; have z1 := (HZ9.out.kept (hSw.block _ HZ9.out.lt)).cell1; go_simp <;> with_reducible rfl)
                  (try simp only [Act.put, List.setIfInBounds_toArray, List.set_cons_zero, List.set_cons_succ])
                  refine wpAnyH_take (i := 33) (oi := ⟨some 106, Op.load 26 (Operand.tmp 13), 26, _, _, some (31, false)⟩) (v := ?vf333) rfl (by kernel_rfl) (by kernel_rfl) (by kernel_rfl) (fun _ _ _ h => h) (Or.inl ⟨by rfl, ?hf333⟩) hS51 ?rf333
                  case hf333 => (intro wz hSw; obtain ⟨k0, k1, k2, k3, k4, k5, k6⟩ := (HG9.out.of hSw).cells; obtain ⟨x0, x1, x2⟩ := (HX9.out.of hSw).cells; obtain ⟨y0, y1, y2⟩ := (HY9.out.of hSw).cells; have z0 := (HZ9.out.kept (hSw.block _ HZ9.out.lt)).cell0; have z1 := (HZ9.out.kept (hSw.block _ HZ9.out.lt)).cell1; go_simp <;> with_reducible rfl)
                  (try simp only [Act.put, List.setIfInBounds_toArray, List.set_cons_zero, List.set_cons_succ])
                  refine wpAnyH_ready (rs := [34]) (by kernel_rfl) (by simp) ?_
                  refine AllReadyH.cons (o := ⟨some 107, Op.call { callee := Callee.value (Operand.func 21), args := #[Operand.tmp 105, Operand.tmp 106], argTypes := #[24, 26] }, 4, _, _, some (31, false)⟩) rfl (fun K hK => ?_) AllReadyH.nil
                  go_simp
                  (with_reducible refine (HWL.out _ hS51).mono ?_); rintro e v52 ⟨rfl, hB52⟩; have hS52 := hS51.trans (hB52.mono hS51.size)
                  refine hK.out _ _ hS52 (fun _ => ?_)
                  clear hK K
                  (try simp only [Act.put, List.setIfInBounds_toArray, List.set_cons_zero, List.set_cons_succ])
                  refine wpAnyH_take (i := 35) (oi := ⟨some 108, Op.move (Operand.tmp 107), 4, _, _, some (31, false)⟩) (v := ?vf335) rfl (by kernel_rfl) (by kernel_rfl) (by kernel_rfl) (fun _ _ _ h => h) (Or.inl ⟨by rfl, ?hf335⟩) hS52 ?rf335
                  case hf335 => (intro wz hSw; go_simp <;> with_reducible rfl)
                  (try simp only [Act.put, List.setIfInBounds_toArray, List.set_cons_zero, List.set_cons_succ])
                  refine wpAnyH_take (i := 36) (oi := ⟨some 109, Op.load 24 (Operand.tmp 4), 24, _, _, some (35, true)⟩) (v := ?vf336) rfl (by kernel_rfl) (by kernel_rfl) (by kernel_rfl) (fun _ _ _ h => h) (Or.inl ⟨by rfl, ?hf336⟩) hS52 ?rf336
                  case hf336 => (intro wz hSw; obtain ⟨k0, k1, k2, k3, k4, k5, k6⟩ := (HG9.out.of hSw).cells; obtain ⟨x0, x1, x2⟩ := (HX9.out.of hSw).cells; obtain ⟨y0, y1, y2⟩ := (HY9.out.of hSw).cells; have z0 := (HZ9.out.kept (hSw.block _ HZ9.out.lt)).cell0; have z1 := (HZ9.out.kept (hSw.block _ HZ9.out.lt)).cell1; go_simp <;> with_reducible rfl)
                  (try simp only [Act.put, List.setIfInBounds_toArray, List.set_cons_zero, List.set_cons_succ])
                  refine wpAnyH_take (i := 37) (oi := ⟨some 110, Op.load 26 (Operand.tmp 5), 26, _, _, some (35, true)⟩) (v := ?vf337) rfl (by kernel_rfl) (by kernel_rfl) (by kernel_rfl) (fun _ _ _ h => h) (Or.inl ⟨by rfl, ?hf337⟩) hS52 ?rf337
                  case hf337 => (intro wz hSw; obtain ⟨k0, k1, k2, k3, k4, k5, k6⟩ := (HG9.out.of hSw).cells; obtain ⟨x0, x1, x2⟩ := (HX9.out.of hSw).cells; obtain ⟨y0, y1, y2⟩ := (HY9.out.of hSw).cells; have z0 := (HZ9.out.kept (hSw.block _ HZ9.out.lt)).cell0; have z1 := (HZ9.out.kept (hSw.block _ HZ9.out.lt)).cell1; go_simp <;> with_reducible rfl)
                  (try simp only [Act.put, List.setIfInBounds_toArray, List.set_cons_zero, List.set_cons_succ])
                  refine wpAnyH_take (i := 38) (oi := ⟨some 111, Op.load 26 (Operand.tmp 6), 26, _, _, some (35, true)⟩) (v := ?vf338) rfl (by kernel_rfl) (by kernel_rfl) (by kernel_rfl) (fun _ _ _ h => h) (Or.inl ⟨by rfl, ?hf338⟩) hS52 ?rf338
                  case hf338 => (intro wz hSw; obtain ⟨k0, k1, k2, k3, k4, k5, k6⟩ := (HG9.out.of hSw).cells; obtain ⟨x0, x1, x2⟩ := (HX9.out.of hSw).cells; obtain ⟨y0, y1, y2⟩ := (HY9.out.of hSw).cells; have z0 := (HZ9.out.kept (hSw.block _ HZ9.out.lt)).cell0; have z1 := (HZ9.out.kept (hSw.block _ HZ9.out.lt)).cell1; go_simp <;> with_reducible rfl)
                  (try simp only [Act.put, List.setIfInBounds_toArray, List.set_cons_zero, List.set_cons_succ])
                  refine wpAnyH_take (i := 40) (oi := ⟨some 113, Op.load 26 (Operand.tmp 13), 26, _, _, some (35, true)⟩) (v := ?vf340) rfl (by kernel_rfl) (by kernel_rfl) (by kernel_rfl) (fun _ _ _ h => h) (Or.inl ⟨by rfl, ?hf340⟩) hS52 ?rf340
                  case hf340 => (intro wz hSw; obtain ⟨k0, k1, k2, k3, k4, k5, k6⟩ := (HG9.out.of hSw).cells; obtain ⟨x0, x1, x2⟩ := (HX9.out.of hSw).cells; obtain ⟨y0, y1, y2⟩ := (HY9.out.of hSw).cells; have z0 := (HZ9.out.kept (hSw.block _ HZ9.out.lt)).cell0; have z1 := (HZ9.out.kept (hSw.block _ HZ9.out.lt)).cell1; go_simp <;> with_reducible rfl)
                  (try simp only [Act.put, List.setIfInBounds_toArray, List.set_cons_zero, List.set_cons_succ])
                  refine wpAnyH_ready (rs := [39]) (by kernel_rfl) (by simp) ?_
                  refine AllReadyH.cons (o := ⟨some 112, Op.call { callee := Callee.value (Operand.func 12), args := #[Operand.tmp 109, Operand.tmp 110, Operand.tmp 111], argTypes := #[24, 26, 26] }, 32, _, _, some (35, true)⟩) rfl (fun K hK => ?_) AllReadyH.nil
                  go_simp
                  (with_reducible refine (HLN.out _).mono ?_); rintro e v53 ⟨⟨A1, c1, rfl, hRt⟩, hB53⟩; have hS53 := hS52.trans (hB53.mono hS52.size)
                  refine hK.out _ _ hS53 (fun _ => ?_)
                  clear hK K
                  (try simp only [Act.put, List.setIfInBounds_toArray, List.set_cons_zero, List.set_cons_succ])
                  refine wpAnyH_ready (rs := [41]) (by kernel_rfl) (by simp) ?_
                  refine AllReadyH.cons (o := ⟨some 114, Op.call { callee := Callee.value (Operand.func 19), args := #[Operand.tmp 112, Operand.tmp 113], argTypes := #[32, 26] }, 4, _, _, some (35, true)⟩) rfl (fun K hK => ?_) AllReadyH.nil
                  go_simp
                  (with_reducible refine (HHS.out _ A1 c1 hRt).mono ?_); rintro e v54 ⟨rfl, hB54⟩; have hS54 := hS53.trans (hB54.mono hS53.size)
                  refine hK.out _ _ hS54 (fun _ => ?_)
                  clear hK K
                  (try simp only [Act.put, List.setIfInBounds_toArray, List.set_cons_zero, List.set_cons_succ])
                  refine wpAnyH_take (i := 42) (oi := ⟨some 115, Op.pick (Operand.tmp 108) (Operand.tmp 114) (Operand.const (Value.bool false)), 4, _, _, some (31, false)⟩) (v := ?vf342) rfl (by kernel_rfl) (by kernel_rfl) (by kernel_rfl) (fun _ _ _ h => h) (Or.inl ⟨by rfl, ?hf342⟩) hS54 ?rf342
                  case hf342 => (intro wz hSw; go_simp <;> with_reducible rfl)
                  (try simp only [Act.put, List.setIfInBounds_toArray, List.set_cons_zero, List.set_cons_succ])
                  refine wpAnyH_take (i := 43) (oi := ⟨some 116, Op.move (Operand.tmp 115), 4, _, _, some (31, false)⟩) (v := ?vf343) rfl (by kernel_rfl) (by kernel_rfl) (by kernel_rfl) (fun _ _ _ h => h) (Or.inl ⟨by rfl, ?hf343⟩) hS54 ?rf343
                  case hf343 => (intro wz hSw; go_simp <;> with_reducible rfl)
                  (try simp only [Act.put, List.setIfInBounds_toArray, List.set_cons_zero, List.set_cons_succ])
                  refine wpAnyH_take (i := 44) (oi := ⟨some 117, Op.load 26 (Operand.tmp 13), 26, _, _, some (43, true)⟩) (v := ?vf344) rfl (by kernel_rfl) (by kernel_rfl) (by kernel_rfl) (fun _ _ _ h => h) (Or.inl ⟨by rfl, ?hf344⟩) hS54 ?rf344
                  case hf344 => (intro wz hSw; obtain ⟨k0, k1, k2, k3, k4, k5, k6⟩ := (HG9.out.of hSw).cells; obtain ⟨x0, x1, x2⟩ := (HX9.out.of hSw).cells; obtain ⟨y0, y1, y2⟩ := (HY9.out.of hSw).cells; have z0 := (HZ9.out.kept (hSw.block _ HZ9.out.lt)).cell0; have z1 := (HZ9.out.kept (hSw.block _ HZ9.out.lt)).cell1; go_simp <;> with_reducible rfl)
                  (try simp only [Act.put, List.setIfInBounds_toArray, List.set_cons_zero, List.set_cons_succ])
                  refine wpAnyH_take (i := 45) (oi := ⟨some 118, Op.load 26 (Operand.tmp 5), 26, _, _, some (43, true)⟩) (v := ?vf345) rfl (by kernel_rfl) (by kernel_rfl) (by kernel_rfl) (fun _ _ _ h => h) (Or.inl ⟨by rfl, ?hf345⟩) hS54 ?rf345
                  case hf345 => (intro wz hSw; obtain ⟨k0, k1, k2, k3, k4, k5, k6⟩ := (HG9.out.of hSw).cells; obtain ⟨x0, x1, x2⟩ := (HX9.out.of hSw).cells; obtain ⟨y0, y1, y2⟩ := (HY9.out.of hSw).cells; have z0 := (HZ9.out.kept (hSw.block _ HZ9.out.lt)).cell0; have z1 := (HZ9.out.kept (hSw.block _ HZ9.out.lt)).cell1; go_simp <;> with_reducible rfl)
                  (try simp only [Act.put, List.setIfInBounds_toArray, List.set_cons_zero, List.set_cons_succ])
                  refine wpAnyH_take (i := 46) (oi := ⟨some 119, Op.binOp BinOp.neq 26 (Operand.tmp 117) (Operand.tmp 118) 26, 4, _, _, some (43, true)⟩) (v := ?vf346) rfl (by kernel_rfl) (by kernel_rfl) (by kernel_rfl) (fun _ _ _ h => h) (Or.inl ⟨by rfl, ?hf346⟩) hS54 ?rf346
                  case hf346 => (intro wz hSw; go_simp <;> with_reducible rfl)
                  (try simp only [Act.put, List.setIfInBounds_toArray, List.set_cons_zero, List.set_cons_succ])
                  refine wpAnyH_take (i := 47) (oi := ⟨some 120, Op.pick (Operand.tmp 116) (Operand.tmp 119) (Operand.const (Value.bool false)), 4, _, _, some (31, false)⟩) (v := ?vf347) rfl (by kernel_rfl) (by kernel_rfl) (by kernel_rfl) (fun _ _ _ h => h) (Or.inl ⟨by rfl, ?hf347⟩) hS54 ?rf347
                  case hf347 => (intro wz hSw; go_simp <;> with_reducible rfl)
                  (try simp only [Act.put, List.setIfInBounds_toArray, List.set_cons_zero, List.set_cons_succ])
                  refine wpAnyH_take (i := 48) (oi := ⟨some 121, Op.move (Operand.tmp 120), 4, _, _, some (31, false)⟩) (v := ?vf348) rfl (by kernel_rfl) (by kernel_rfl) (by kernel_rfl) (fun _ _ _ h => h) (Or.inl ⟨by rfl, ?hf348⟩) hS54 ?rf348
                  case hf348 => (intro wz hSw; go_simp <;> with_reducible rfl)
                  (try simp only [Act.put, List.setIfInBounds_toArray, List.set_cons_zero, List.set_cons_succ])
                  refine wpAnyH_take (i := 49) (oi := ⟨some 122, Op.load 26 (Operand.tmp 13), 26, _, _, some (48, true)⟩) (v := ?vf349) rfl (by kernel_rfl) (by kernel_rfl) (by kernel_rfl) (fun _ _ _ h => h) (Or.inl ⟨by rfl, ?hf349⟩) hS54 ?rf349
                  case hf349 => (intro wz hSw; obtain ⟨k0, k1, k2, k3, k4, k5, k6⟩ := (HG9.out.of hSw).cells; obtain ⟨x0, x1, x2⟩ := (HX9.out.of hSw).cells; obtain ⟨y0, y1, y2⟩ := (HY9.out.of hSw).cells; have z0 := (HZ9.out.kept (hSw.block _ HZ9.out.lt)).cell0; have z1 := (HZ9.out.kept (hSw.block _ HZ9.out.lt)).cell1; go_simp <;> with_reducible rfl)
                  (try simp only [Act.put, List.setIfInBounds_toArray, List.set_cons_zero, List.set_cons_succ])
                  refine wpAnyH_take (i := 50) (oi := ⟨some 123, Op.load 26 (Operand.tmp 6), 26, _, _, some (48, true)⟩) (v := ?vf350) rfl (by kernel_rfl) (by kernel_rfl) (by kernel_rfl) (fun _ _ _ h => h) (Or.inl ⟨by rfl, ?hf350⟩) hS54 ?rf350
                  case hf350 => (intro wz hSw; obtain ⟨k0, k1, k2, k3, k4, k5, k6⟩ := (HG9.out.of hSw).cells; obtain ⟨x0, x1, x2⟩ := (HX9.out.of hSw).cells; obtain ⟨y0, y1, y2⟩ := (HY9.out.of hSw).cells; have z0 := (HZ9.out.kept (hSw.block _ HZ9.out.lt)).cell0; have z1 := (HZ9.out.kept (hSw.block _ HZ9.out.lt)).cell1; go_simp <;> with_reducible rfl)
                  (try simp only [Act.put, List.setIfInBounds_toArray, List.set_cons_zero, List.set_cons_succ])
                  refine wpAnyH_take (i := 51) (oi := ⟨some 124, Op.binOp BinOp.neq 26 (Operand.tmp 122) (Operand.tmp 123) 26, 4, _, _, some (48, true)⟩) (v := ?vf351) rfl (by kernel_rfl) (by kernel_rfl) (by kernel_rfl) (fun _ _ _ h => h) (Or.inl ⟨by rfl, ?hf351⟩) hS54 ?rf351
                  case hf351 => (intro wz hSw; go_simp <;> with_reducible rfl)
                  (try simp only [Act.put, List.setIfInBounds_toArray, List.set_cons_zero, List.set_cons_succ])
                  refine wpAnyH_take (i := 52) (oi := ⟨some 125, Op.pick (Operand.tmp 121) (Operand.tmp 124) (Operand.const (Value.bool false)), 4, _, _, some (31, false)⟩) (v := ?vf352) rfl (by kernel_rfl) (by kernel_rfl) (by kernel_rfl) (fun _ _ _ h => h) (Or.inl ⟨by rfl, ?hf352⟩) hS54 ?rf352
                  case hf352 => (intro wz hSw; go_simp <;> with_reducible rfl)
                  (try simp only [Act.put, List.setIfInBounds_toArray, List.set_cons_zero, List.set_cons_succ])
                  refine wpAnyH_take (i := 53) (oi := ⟨some 126, Op.pick (Operand.tmp 104) (Operand.const (Value.bool true)) (Operand.tmp 125), 4, _, _, some (28, true)⟩) (v := ?vf353) rfl (by kernel_rfl) (by kernel_rfl) (by kernel_rfl) (fun _ _ _ h => h) (Or.inl ⟨by rfl, ?hf353⟩) hS54 ?rf353
                  case hf353 => (intro wz hSw; go_simp <;> with_reducible rfl)
                  (try simp only [Act.put, List.setIfInBounds_toArray, List.set_cons_zero, List.set_cons_succ])
                  refine wpAnyH_take (i := 54) (oi := ⟨some 127, Op.pick (Operand.tmp 101) (Operand.tmp 126) (Operand.const (Value.bool false)), 4, _, _, none⟩) (v := ?vf354) rfl (by kernel_rfl) (by kernel_rfl) (by kernel_rfl) (fun _ _ _ h => h) (Or.inl ⟨by rfl, ?hf354⟩) hS54 ?rf354
                  case hf354 => (intro wz hSw; go_simp <;> with_reducible rfl)
                  (try simp only [Act.put, List.setIfInBounds_toArray, List.set_cons_zero, List.set_cons_succ])
                  refine wpAnyH_take (i := 55) (oi := ⟨some 128, Op.move (Operand.tmp 127), 4, _, _, none⟩) (v := ?vf355) rfl (by kernel_rfl) (by kernel_rfl) (by kernel_rfl) (fun _ _ _ h => h) (Or.inl ⟨by rfl, ?hf355⟩) hS54 ?rf355
                  case hf355 => (intro wz hSw; go_simp <;> with_reducible rfl)
                  (try simp only [Act.put, List.setIfInBounds_toArray, List.set_cons_zero, List.set_cons_succ])
                  refine wpAnyH_take (i := 56) (oi := ⟨some 129, Op.load 24 (Operand.tmp 4), 24, _, _, some (55, true)⟩) (v := ?vf356) rfl (by kernel_rfl) (by kernel_rfl) (by kernel_rfl) (fun _ _ _ h => h) (Or.inl ⟨by rfl, ?hf356⟩) hS54 ?rf356
                  case hf356 => (intro wz hSw; obtain ⟨k0, k1, k2, k3, k4, k5, k6⟩ := (HG9.out.of hSw).cells; obtain ⟨x0, x1, x2⟩ := (HX9.out.of hSw).cells; obtain ⟨y0, y1, y2⟩ := (HY9.out.of hSw).cells; have z0 := (HZ9.out.kept (hSw.block _ HZ9.out.lt)).cell0; have z1 := (HZ9.out.kept (hSw.block _ HZ9.out.lt)).cell1; go_simp <;> with_reducible rfl)
                  (try simp only [Act.put, List.setIfInBounds_toArray, List.set_cons_zero, List.set_cons_succ])
                  refine wpAnyH_take (i := 57) (oi := ⟨some 130, Op.load 26 (Operand.tmp 5), 26, _, _, some (55, true)⟩) (v := ?vf357) rfl (by kernel_rfl) (by kernel_rfl) (by kernel_rfl) (fun _ _ _ h => h) (Or.inl ⟨by rfl, ?hf357⟩) hS54 ?rf357
                  case hf357 => (intro wz hSw; obtain ⟨k0, k1, k2, k3, k4, k5, k6⟩ := (HG9.out.of hSw).cells; obtain ⟨x0, x1, x2⟩ := (HX9.out.of hSw).cells; obtain ⟨y0, y1, y2⟩ := (HY9.out.of hSw).cells; have z0 := (HZ9.out.kept (hSw.block _ HZ9.out.lt)).cell0; have z1 := (HZ9.out.kept (hSw.block _ HZ9.out.lt)).cell1; go_simp <;> with_reducible rfl)
                  (try simp only [Act.put, List.setIfInBounds_toArray, List.set_cons_zero, List.set_cons_succ])
                  refine wpAnyH_take (i := 58) (oi := ⟨some 131, Op.load 26 (Operand.tmp 5), 26, _, _, some (55, true)⟩) (v := ?vf358) rfl (by kernel_rfl) (by kernel_rfl) (by kernel_rfl) (fun _ _ _ h => h) (Or.inl ⟨by rfl, ?hf358⟩) hS54 ?rf358
                  case hf358 => (intro wz hSw; obtain ⟨k0, k1, k2, k3, k4, k5, k6⟩ := (HG9.out.of hSw).cells; obtain ⟨x0, x1, x2⟩ := (HX9.out.of hSw).cells; obtain ⟨y0, y1, y2⟩ := (HY9.out.of hSw).cells; have z0 := (HZ9.out.kept (hSw.block _ HZ9.out.lt)).cell0; have z1 := (HZ9.out.kept (hSw.block _ HZ9.out.lt)).cell1; go_simp <;> with_reducible rfl)
                  (try simp only [Act.put, List.setIfInBounds_toArray, List.set_cons_zero, List.set_cons_succ])
                  refine wpAnyH_ready (rs := [59]) (by kernel_rfl) (by simp) ?_
                  refine AllReadyH.cons (o := ⟨some 132, Op.call { callee := Callee.value (Operand.func 14), args := #[Operand.tmp 129, Operand.tmp 130, Operand.tmp 131], argTypes := #[24, 26, 26] }, 4, _, _, some (55, true)⟩) rfl (fun K hK => ?_) AllReadyH.nil
                  go_simp
                  (with_reducible refine (HSA.out _ hS54).mono ?_); rintro e v55 ⟨rfl, hB55⟩; have hS55 := hS54.trans (hB55.mono hS54.size)
                  refine hK.out _ _ hS55 (fun _ => ?_)
                  clear hK K
                  (try simp only [Act.put, List.setIfInBounds_toArray, List.set_cons_zero, List.set_cons_succ])
                  refine wpAnyH_take (i := 60) (oi := ⟨some 133, Op.pick (Operand.tmp 128) (Operand.tmp 132) (Operand.const (Value.bool false)), 4, _, _, none⟩) (v := ?vf360) rfl (by kernel_rfl) (by kernel_rfl) (by kernel_rfl) (fun _ _ _ h => h) (Or.inl ⟨by rfl, ?hf360⟩) hS55 ?rf360
                  case hf360 => (intro wz hSw; go_simp <;> with_reducible rfl)
                  (try simp only [Act.put, List.setIfInBounds_toArray, List.set_cons_zero, List.set_cons_succ])
                  refine wpAnyH_take (i := 61) (oi := ⟨some 8, Op.assign (Operand.tmp 133), 4, _, _, none⟩) (v := ?vf361) rfl (by kernel_rfl) (by kernel_rfl) (by kernel_rfl) (fun _ _ _ h => h) (Or.inl ⟨by rfl, ?hf361⟩) hS55 ?rf361
                  case hf361 => (intro wz hSw; go_simp <;> with_reducible rfl)
                  (try simp only [Act.put, List.setIfInBounds_toArray, List.set_cons_zero, List.set_cons_succ])
                  refine wpAnyH_done (by kernel_rfl) ?_ _
                  refine NoPanic.normal ?_
                  have hfin := HB9W.out.trans (hS55.mono HB9W.out.size)
                  go_wp2
                  go_ret
                  exact ⟨rfl, hfin⟩


set_option maxRecDepth 100000 in
theorem lifted (os : Os) (started : os.Started) (H : Type) (enc : TypeId × Value → H) :
    ReturnsInHanded {} Try.checked os 6 .any (Rows.sightWallsSpec.pre6 enc Try.prog Try.f6 Rows.sightWallsRow.domain false) (Rows.sightWallsSpec.post enc Try.prog Try.f6 false true false false) := by
  refine returnsInHanded_of_change (C := Try.checked) own started (by kernel_rfl) Try.func6
    (ChangeSpec.witness6 (enc := enc) (C := Try.checked) false ⟨#[], #[.agg #[.int .i64 0, .int .i64 0, .slice none 0 0], .agg #[.int .i64 0, .int .i64 0], .agg #[.int .i64 0, .int .i64 0], .int .i64 0], []⟩ 8 (by kernel_rfl) (by kernel_rfl) (by kernel_rfl) (by kernel_rfl)) ?_
  intro W base args ds gs before hval0 hW hcnd _
  have hval : ∀ (j : Nat) t v, Try.f6.params[j]? = some t → args[j]? = some v → Value.okWide Try.prog W .any base t v := hval0
  have hW' := hW
  obtain ⟨p, q, hA0, hV, rfl, hfz, hnd⟩ := hW
  have hA : DataW.TrodAll enc Try.prog W 0 (fun _ => true) true Try.f6.params.toList args.toList ds p := hA0
  rw [Try.params6] at hA hval
  obtain ⟨v0, vs0, d0, ds0, p0, q0, hargs, rfl, rfl, h0, r0⟩ := trodAll_cons hA
  obtain ⟨v1, vs1, d1, ds1, p1, q1, rfl, rfl, rfl, h1, r1⟩ := trodAll_cons r0
  obtain ⟨v2, vs2, d2, ds2, p2, q2, rfl, rfl, rfl, h2, r2⟩ := trodAll_cons r1
  obtain ⟨v3, vs3, d3, ds3, p3, q3, rfl, rfl, rfl, h3, r3⟩ := trodAll_cons r2
  obtain ⟨rfl, rfl, rfl⟩ := trodAll_nil r3
  obtain rfl : args = #[v0, v1, v2, v3] := by cases args; simp_all
  obtain ⟨rfl, rfl⟩ := trodVars_none hV
  clear hA0 hval0
  have hlt0 : ∀ x ∈ p0, x.block < W.heap.size := fun x hx => hW'.lt x (by simp [hx])
  have hk0 := h0
  obtain ⟨gw0, gh0, A0, c0, l0, rfl, fw0, fh0, hr0⟩ := Open.viewG (hval 0 24 v0 rfl rfl) h0 hlt0
  have hlt1 : ∀ x ∈ p1, x.block < W.heap.size := fun x hx => hW'.lt x (by simp [hx])
  have hk1 := h1
  obtain ⟨x1, y1, rfl, fx1, fy1⟩ := Open.viewP (hval 1 26 v1 rfl rfl) h1
  have hlt2 : ∀ x ∈ p2, x.block < W.heap.size := fun x hx => hW'.lt x (by simp [hx])
  have hk2 := h2
  obtain ⟨x2, y2, rfl, fx2, fy2⟩ := Open.viewP (hval 2 26 v2 rfl rfl) h2
  obtain ⟨a3, rfl, rfl, rfl, w3⟩ := open_int Try.underlying3 (hval 3 3 v3 rfl rfl) h3
  simp only [List.append_nil] at hW'
  refine (walk W gw0 gh0 A0 c0 l0 fw0 fh0 hr0 x1 y1 fx1 fy1 x2 y2 fx2 fy2 a3 (Open.fits_of w3)).mono fun e W' ⟨he, hg⟩ => ?_
  subst he
  exact ⟨_, rfl, _, _, _, [], _, [], hW', (trodAll_cons_mk (shut_bool Try.underlying4 _) trodAll_mk0), (trodAll_cons_mk (Below.trod Open.laidOut (by kernel_rfl) (of_decide_eq_true (by kernel_rfl)) hk0 hg hlt0) (trodAll_cons_mk (Below.trod Open.laidOut (by kernel_rfl) (of_decide_eq_true (by kernel_rfl)) hk1 hg hlt1) (trodAll_cons_mk (Below.trod Open.laidOut (by kernel_rfl) (of_decide_eq_true (by kernel_rfl)) hk2 hg hlt2) (trodAll_cons_mk (shut_int Try.underlying3 w3) trodAll_mk0)))), rfl, hg.frame _, fun h => by cases h⟩

theorem over : Rows.sightWallsRow.holds Try.pinned (OpenSpec.ofChange Rows.sightWallsSpec) :=
  OpenClaim.holds_of_wide 6 Try.f6 rfl rfl rfl rfl rfl rfl rfl ⟨rfl, rfl, rfl, rfl, rfl⟩ rfl rfl rfl rfl rfl (by kernel_rfl) Try.func6 (by kernel_rfl)
    (of_decide_eq_true (by kernel_rfl)) (by unfold Func.isWrapper; first | (rw [if_pos (by decide +kernel)]; kernel_rfl) | (rw [if_neg (by decide +kernel)]; exact ⟨rfl, rfl⟩))
    (fun os started H enc _ => lifted os started H enc)

/-- The given statement. -/
theorem proved : Rows.SightWallsSaid :=
  over
#print axioms proved
end Go.Proofs.Ytiggpmennomplaa.sightWalls
