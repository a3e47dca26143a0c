/-
  Contracts of the functions that say whether an aura, a line, an effect, a map is right.
-/
import Derived.Test.YtijobbdgiaiocaaFnd
namespace Go.Proofs.Ytijobbdgiaiocaa.Con
open Go.RowKit Go.Maps

/-- Content whose rows are short. -/
structure Sm (c : Cn) : Prop where
  abs : (c.ab.length : Int) ≤ 50000
  aus : (c.au.length : Int) ≤ 50000
  fos : (c.fo.length : Int) ≤ 50000
  wls : (c.wl.length : Int) ≤ 50000
  effs : ∀ a ∈ c.ab, (a.eff.length : Int) ≤ 50000
  scrs : ∀ f ∈ c.fo, (f.script.length : Int) ≤ 50000
  hors : ∀ f ∈ c.fo, (f.hoard.length : Int) ≤ 50000

theorem isWhen_any (l : Ln) (w : World) (x : Bool) (hx : x = true ↔ WhOk l) : Calls Try.prog 98 #[lnv l] w fun e w' => e = .returned (.bool x) ∧ Below w.heap.size w w' := by
  obtain ⟨x1, h1⟩ := bex (In l.arg 1 100)
  obtain ⟨x2, h2⟩ := bex (In l.arg 1 1000000)
  have HX := Lib.hid hx; have H1 := Lib.hid h1; have H2 := Lib.hid h2; clear hx h1 h2
  go_enter Try.func98, Try.ntmps98
  go_wp2_with (first | ((with_reducible refine (isIn_any _ _ _ _ x1 H1.out).mono ?_); rintro e w' ⟨rfl, rfl⟩) | ((with_reducible refine (isIn_any _ _ _ _ x2 H2.out).mono ?_); rintro e w' ⟨rfl, rfl⟩))
  all_goals
    go_ret
    exact ⟨of_iff HX.out (by unfold WhOk; rw [← H1.out, ← H2.out]; simp_all), by go_grown⟩

set_option maxHeartbeats 2000000 in
theorem isAura_any (a : Au) (w : World) (x : Bool) (hx : x = true ↔ AuOk a) : Calls Try.prog 65 #[auv a] w fun e w' => e = .returned (.bool x) ∧ Below w.heap.size w w' := by
  obtain ⟨x1, h1⟩ := bex (In a.ticks 1 1000000)
  obtain ⟨x2, h2⟩ := bex (In a.stacks 1 100)
  obtain ⟨x3, h3⟩ := bex (In a.every 1 1000000)
  obtain ⟨x4, h4⟩ := bex (Amt a.amount)
  obtain ⟨x5, h5⟩ := bex (In a.amount (-100) 1000)
  have HX := Lib.hid hx; have H1 := Lib.hid h1; have H2 := Lib.hid h2; have H3 := Lib.hid h3; have H4 := Lib.hid h4; have H5 := Lib.hid h5; clear hx h1 h2 h3 h4 h5
  go_enter Try.func65, Try.ntmps65
  go_wp2_with (first
    | ((with_reducible refine (isIn_any _ _ _ _ x1 H1.out).mono ?_); rintro e w' ⟨rfl, rfl⟩)
    | ((with_reducible refine (isIn_any _ _ _ _ x2 H2.out).mono ?_); rintro e w' ⟨rfl, rfl⟩)
    | ((with_reducible refine (isIn_any _ _ _ _ x3 H3.out).mono ?_); rintro e w' ⟨rfl, rfl⟩)
    | ((with_reducible refine (isAmount_any _ _ x4 H4.out).mono ?_); rintro e w' ⟨rfl, rfl⟩)
    | ((with_reducible refine (isIn_any _ _ _ _ x5 H5.out).mono ?_); rintro e w' ⟨rfl, rfl⟩))
  all_goals
    go_ret
    exact ⟨of_iff HX.out (by unfold AuOk; rw [← H1.out, ← H2.out, ← H3.out, ← H4.out, ← H5.out]; simp_all), by go_grown⟩

set_option maxHeartbeats 2000000 in
theorem isDo_any {w : World} {B : Nat} {c : Cn} (hr : RC w B c) (hB : B ≤ w.heap.size) (hs : Sm c) (l : Ln) (x : Bool) (hx : x = true ↔ DoOk c l) : Calls Try.prog 99 #[cnv c, lnv l] w fun e w' => e = .returned (.bool x) ∧ Below w.heap.size w w' := by
  obtain ⟨x1, h1⟩ := bex (In l.value 1 100)
  obtain ⟨x2, h2⟩ := bex (Amt l.value)
  obtain ⟨x3, h3⟩ := bex (HasAb c l.value)
  have hl : (c.ab.length : Int) ≤ 1000000 := by have := hs.abs; omega
  have HR := Lib.hid hr; have HX := Lib.hid hx; have H1 := Lib.hid h1; have H2 := Lib.hid h2; have H3 := Lib.hid h3; clear hx h1 h2 h3 hr hs
  go_enter Try.func99, Try.ntmps99
  go_wp2_with (first
    | ((with_reducible refine (isIn_any _ _ _ _ x1 H1.out).mono ?_); rintro e w' ⟨rfl, rfl⟩)
    | ((with_reducible refine (isAmount_any _ _ x2 H2.out).mono ?_); rintro e w' ⟨rfl, rfl⟩)
    | ((with_reducible refine (has_ab (l := c.ab) rfl (HR.out.abs.below (by go_grown) hB) (by go_size) hl _ x3 H3.out).mono ?_); rintro e w1 ⟨rfl, hB1⟩; have hV1 := bstep hB1 (V := w) (by go_grown)))
  all_goals
    go_ret
    exact ⟨of_iff HX.out (by unfold DoOk; rw [← H1.out, ← H2.out, ← H3.out]; simp_all), by go_grown⟩

set_option maxHeartbeats 2000000 in
theorem isLine_any {w : World} {B : Nat} {c : Cn} (hr : RC w B c) (hB : B ≤ w.heap.size) (hs : Sm c) (l : Ln) (x : Bool) (hx : x = true ↔ LnOk c l) : Calls Try.prog 85 #[cnv c, lnv l] w fun e w' => e = .returned (.bool x) ∧ Below w.heap.size w w' := by
  obtain ⟨x1, h1⟩ := bex (In l.phase 1 100)
  obtain ⟨x2, h2⟩ := bex (WhOk l)
  obtain ⟨x3, h3⟩ := bex (DoOk c l)
  have HR := Lib.hid hr; have HX := Lib.hid hx; have H1 := Lib.hid h1; have H2 := Lib.hid h2; have H3 := Lib.hid h3; have HS := Lib.hid hs; clear hx h1 h2 h3 hr hs
  go_enter Try.func85, Try.ntmps85
  go_wp2_with (first
    | ((with_reducible refine (isIn_any _ _ _ _ x1 H1.out).mono ?_); rintro e w' ⟨rfl, rfl⟩)
    | ((with_reducible refine (isWhen_any l _ x2 H2.out).mono ?_); rintro e w1 ⟨rfl, hB1⟩; have hV1 := bstep hB1 (V := w) (by go_grown); have g0 := fun o => hB1.cell (p := ⟨w.heap.size, o, none⟩) (by go_size); have g1 := fun o => hB1.cell (p := ⟨w.heap.size + 1, o, none⟩) (by go_size); have hs1 := hV1.size)
    | ((with_reducible refine (isDo_any (HR.out.below (by go_grown) hB) (by go_size) HS.out l x3 H3.out).mono ?_); rintro e w2 ⟨rfl, hB2⟩; have hV2 := bstep hB2 (V := w) (by go_grown)))
  all_goals
    go_ret
    exact ⟨of_iff HX.out (by unfold LnOk; rw [← H1.out, ← H2.out, ← H3.out]; simp_all), by go_grown⟩

set_option maxHeartbeats 2000000 in
theorem isEffect_any {w : World} {B : Nat} {c : Cn} (hr : RC w B c) (hB : B ≤ w.heap.size) (hs : Sm c) (l : Ef) (x : Bool) (hx : x = true ↔ EfOk c l) : Calls Try.prog 81 #[cnv c, efv l] w fun e w' => e = .returned (.bool x) ∧ Below w.heap.size w w' := by
  obtain ⟨x1, h1⟩ := bex (In l.kind 1 7)
  obtain ⟨x2, h2⟩ := bex (Amt l.amount)
  obtain ⟨x3, h3⟩ := bex (HasAu c l.aura)
  have hl : (c.au.length : Int) ≤ 1000000 := by have := hs.aus; omega
  have HR := Lib.hid hr; have HX := Lib.hid hx; have H1 := Lib.hid h1; have H2 := Lib.hid h2; have H3 := Lib.hid h3; clear hx h1 h2 h3 hr hs
  go_enter Try.func81, Try.ntmps81
  go_wp2_with (first
    | ((with_reducible refine (isIn_any _ _ _ _ x1 H1.out).mono ?_); rintro e w' ⟨rfl, rfl⟩)
    | ((with_reducible refine (isAmount_any _ _ x2 H2.out).mono ?_); rintro e w' ⟨rfl, rfl⟩)
    | ((with_reducible refine (has_au (l := c.au) rfl (HR.out.aus.below (by go_grown) hB) (by go_size) hl _ x3 H3.out).mono ?_); rintro e w1 ⟨rfl, hB1⟩; have hV1 := bstep hB1 (V := w) (by go_grown)))
  all_goals
    go_ret
    exact ⟨of_iff HX.out (by unfold EfOk; rw [← H1.out, ← H2.out, ← H3.out]; simp_all), by go_grown⟩
end Go.Proofs.Ytijobbdgiaiocaa.Con
