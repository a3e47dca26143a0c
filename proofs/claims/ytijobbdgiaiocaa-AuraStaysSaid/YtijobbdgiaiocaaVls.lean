/-
  The parts of content as values; what it is that content lies in memory; contracts of the small functions that read one part and call no loop.
-/
import Derived.Test.YtijobbdgiaiocaaMem
import Derived.Handy
namespace Go.Proofs.Ytijobbdgiaiocaa.Con
open Go.RowKit Go.Maps

abbrev efv (x : Ef) : Value := .agg #[.int .i64 x.kind, .int .i64 x.amount, .int .i64 x.aura]
abbrev lnv (x : Ln) : Value := .agg #[.int .i64 x.phase, .int .i64 x.whn, .int .i64 x.arg, .int .i64 x.dos, .int .i64 x.value]
abbrev pzv (x : Pz) : Value := .agg #[.int .i64 x.item, .int .i64 x.weight]
abbrev auv (x : Au) : Value := .agg #[.int .i64 x.id, .int .i64 x.kind, .int .i64 x.ticks, .int .i64 x.every, .int .i64 x.stacks, .int .i64 x.amount, .bool x.harm]
abbrev abv (x : Ab) : Value := .agg #[.int .i64 x.id, .int .i64 x.cast, .int .i64 x.cool, .int .i64 x.charges, .int .i64 x.range, .int .i64 x.cost, .bool x.sight, .slice x.ea x.eff.length x.ec]
abbrev fov (x : Fo) : Value := .agg #[.int .i64 x.id, .int .i64 x.health, .int .i64 x.hit, .int .i64 x.every, .int .i64 x.reach, .slice x.sa x.script.length x.sc, .slice x.ha x.hoard.length x.hc, .int .i64 x.drops]
abbrev cnv (c : Cn) : Value := .agg #[.slice c.aA c.ab.length c.aC, .slice c.uA c.au.length c.uC, .slice c.fA c.fo.length c.fC, .int .i64 c.W, .int .i64 c.H, .slice c.gA c.wl.length c.gC, .int .i64 c.dx, .int .i64 c.dy, .int .i64 c.lx, .int .i64 c.ly]
def cnc (c : Cn) : List Value := [.slice c.aA c.ab.length c.aC, .slice c.uA c.au.length c.uC, .slice c.fA c.fo.length c.fC, .int .i64 c.W, .int .i64 c.H, .slice c.gA c.wl.length c.gC, .int .i64 c.dx, .int .i64 c.dy, .int .i64 c.lx, .int .i64 c.ly]
/-- An address of a block's first cell. -/
abbrev pt (b : Nat) : Value := .pointer (some ⟨b, 0, none⟩)

/-- Cells lie at a block's beginning. -/
def At (w : World) (b : Nat) (cs : List Value) : Prop := ∀ j v, cs[j]? = some v → w.cell? ⟨b, j, none⟩ = some v
theorem At.of {w w' : World} {b B : Nat} {cs : List Value} (h : At w b cs) (hb : Below B w w') (hB : b < B) : At w' b cs := fun j v hv => (World.cell?_of_block (w := w) (hb.block b hB)).trans (h j v hv)

/-- Content lies in memory, in blocks below B. -/
structure RC (w : World) (B : Nat) (c : Cn) : Prop where
  abs : RW ab w B c.aA c.ab
  aus : RW au w B c.uA c.au
  fos : RW fo w B c.fA c.fo
  wls : RB w B c.gA c.wl
  effs : ∀ a ∈ c.ab, RW ef w B a.ea a.eff
  scrs : ∀ f ∈ c.fo, RW ln w B f.sa f.script
  hors : ∀ f ∈ c.fo, RW pz w B f.ha f.hoard
theorem RC.below {w w' : World} {B B' : Nat} {c : Cn} (h : RC w B c) (hb : Below B' w w') (hB : B ≤ B') : RC w' B c :=
  ⟨h.abs.below hb hB, h.aus.below hb hB, h.fos.below hb hB, h.wls.below hb hB, fun a ha => (h.effs a ha).below hb hB, fun a ha => (h.scrs a ha).below hb hB, fun a ha => (h.hors a ha).below hb hB⟩
theorem RB.more {w : World} {B B' : Nat} {A : Option Addr} {l : List Bool} (h : RB w B A l) (hB : B ≤ B') : RB w B' A l := by
  rcases h with rfl | ⟨b, off, hA, hlt, hc⟩
  · exact .inl rfl
  · exact .inr ⟨b, off, hA, by omega, hc⟩
theorem RC.more {w : World} {B B' : Nat} {c : Cn} (h : RC w B c) (hB : B ≤ B') : RC w B' c :=
  ⟨h.abs.more hB, h.aus.more hB, h.fos.more hB, h.wls.more hB, fun a ha => (h.effs a ha).more hB, fun a ha => (h.scrs a ha).more hB, fun a ha => (h.hors a ha).more hB⟩

theorem cellsAb {W : World} {p o : Nat} {x : Ab} (h : ∀ j v, (encAb x)[j]? = some v → W.cell? ⟨p, o + j, none⟩ = some v) : W.cell? ⟨p, o, none⟩ = some (.int .i64 x.id) ∧ W.cell? ⟨p, o + 1, none⟩ = some (.int .i64 x.cast) ∧ W.cell? ⟨p, o + 2, none⟩ = some (.int .i64 x.cool) ∧ W.cell? ⟨p, o + 3, none⟩ = some (.int .i64 x.charges) ∧ W.cell? ⟨p, o + 4, none⟩ = some (.int .i64 x.range) ∧ W.cell? ⟨p, o + 5, none⟩ = some (.int .i64 x.cost) ∧ W.cell? ⟨p, o + 6, none⟩ = some (.bool x.sight) ∧ W.cell? ⟨p, o + 7, none⟩ = some (.slice x.ea x.eff.length x.ec) := ⟨h 0 _ rfl, h 1 _ rfl, h 2 _ rfl, h 3 _ rfl, h 4 _ rfl, h 5 _ rfl, h 6 _ rfl, h 7 _ rfl⟩
theorem cellsFo {W : World} {p o : Nat} {x : Fo} (h : ∀ j v, (encFo x)[j]? = some v → W.cell? ⟨p, o + j, none⟩ = some v) : W.cell? ⟨p, o, none⟩ = some (.int .i64 x.id) ∧ W.cell? ⟨p, o + 1, none⟩ = some (.int .i64 x.health) ∧ W.cell? ⟨p, o + 2, none⟩ = some (.int .i64 x.hit) ∧ W.cell? ⟨p, o + 3, none⟩ = some (.int .i64 x.every) ∧ W.cell? ⟨p, o + 4, none⟩ = some (.int .i64 x.reach) ∧ W.cell? ⟨p, o + 5, none⟩ = some (.slice x.sa x.script.length x.sc) ∧ W.cell? ⟨p, o + 6, none⟩ = some (.slice x.ha x.hoard.length x.hc) ∧ W.cell? ⟨p, o + 7, none⟩ = some (.int .i64 x.drops) := ⟨h 0 _ rfl, h 1 _ rfl, h 2 _ rfl, h 3 _ rfl, h 4 _ rfl, h 5 _ rfl, h 6 _ rfl, h 7 _ rfl⟩
theorem cellsAu {W : World} {p o : Nat} {x : Au} (h : ∀ j v, (encAu x)[j]? = some v → W.cell? ⟨p, o + j, none⟩ = some v) : W.cell? ⟨p, o, none⟩ = some (.int .i64 x.id) ∧ W.cell? ⟨p, o + 1, none⟩ = some (.int .i64 x.kind) ∧ W.cell? ⟨p, o + 2, none⟩ = some (.int .i64 x.ticks) ∧ W.cell? ⟨p, o + 3, none⟩ = some (.int .i64 x.every) ∧ W.cell? ⟨p, o + 4, none⟩ = some (.int .i64 x.stacks) ∧ W.cell? ⟨p, o + 5, none⟩ = some (.int .i64 x.amount) ∧ W.cell? ⟨p, o + 6, none⟩ = some (.bool x.harm) := ⟨h 0 _ rfl, h 1 _ rfl, h 2 _ rfl, h 3 _ rfl, h 4 _ rfl, h 5 _ rfl, h 6 _ rfl⟩
theorem cellsEf {W : World} {p o : Nat} {x : Ef} (h : ∀ j v, (encEf x)[j]? = some v → W.cell? ⟨p, o + j, none⟩ = some v) : W.cell? ⟨p, o, none⟩ = some (.int .i64 x.kind) ∧ W.cell? ⟨p, o + 1, none⟩ = some (.int .i64 x.amount) ∧ W.cell? ⟨p, o + 2, none⟩ = some (.int .i64 x.aura) := ⟨h 0 _ rfl, h 1 _ rfl, h 2 _ rfl⟩
theorem cellsLn {W : World} {p o : Nat} {x : Ln} (h : ∀ j v, (encLn x)[j]? = some v → W.cell? ⟨p, o + j, none⟩ = some v) : W.cell? ⟨p, o, none⟩ = some (.int .i64 x.phase) ∧ W.cell? ⟨p, o + 1, none⟩ = some (.int .i64 x.whn) ∧ W.cell? ⟨p, o + 2, none⟩ = some (.int .i64 x.arg) ∧ W.cell? ⟨p, o + 3, none⟩ = some (.int .i64 x.dos) ∧ W.cell? ⟨p, o + 4, none⟩ = some (.int .i64 x.value) := ⟨h 0 _ rfl, h 1 _ rfl, h 2 _ rfl, h 3 _ rfl, h 4 _ rfl⟩
theorem cellsPz {W : World} {p o : Nat} {x : Pz} (h : ∀ j v, (encPz x)[j]? = some v → W.cell? ⟨p, o + j, none⟩ = some v) : W.cell? ⟨p, o, none⟩ = some (.int .i64 x.item) ∧ W.cell? ⟨p, o + 1, none⟩ = some (.int .i64 x.weight) := ⟨h 0 _ rfl, h 1 _ rfl⟩
theorem blk_cell {w w' : World} {b B : Nat} {cs : Array Value} {t : TypeId} {f : Nat × Nat} (h : w.heap[b]? = some (.cells cs t f)) (hb : Below B w w') (hB : b < B) (o : Nat) : w'.cell? ⟨b, o, none⟩ = cs[o]? := by
  rw [World.cell?_of_block (w := w) (hb.block b hB)]
  simp [World.cell?, h]
theorem blk_froz {w w' : World} {b B : Nat} {cs : Array Value} {t : TypeId} (h : w.heap[b]? = some (.cells cs t (0, 0))) (hb : Below B w w') (hB : b < B) (o : Nat) : w'.frozen? ⟨b, o, none⟩ = false := by
  rw [hb.frozen (p := ⟨b, o, none⟩) hB]
  simp [World.frozen?, h]
/-- Row k's cells in a later world. -/
theorem row_in {α : Type} {E : El α} {w W : World} {B B' : Nat} {A : Option Addr} {l : List α} (hr : RW E w B A l) {k : Nat} {x : α} (hx : l[k]? = some x) (hb : Below B' w W) (hB : B ≤ B') :
    ∃ p off, A = some ⟨p, off, none⟩ ∧ p < B ∧ ∀ j v, (E.enc x)[j]? = some v → W.cell? ⟨p, off + k * E.k + j, none⟩ = some v := by
  obtain ⟨p, off, hA, hp, hc⟩ := hr.at' hx
  exact ⟨p, off, hA, hp, fun j v hv => (hb.cell (p := ⟨p, off + k * E.k + j, none⟩) (Nat.lt_of_lt_of_le hp hB)).trans (hc j v hv)⟩
theorem rowAb {w W : World} {B B' : Nat} {A : Option Addr} {l : List Ab} (hr : RW ab w B A l) {k : Nat} {x : Ab} (hx : l[k]? = some x) (hb : Below B' w W) (hB : B ≤ B') :
    ∃ p off, A = some ⟨p, off, none⟩ ∧ p < B ∧ W.cell? ⟨p, off + k * 8, none⟩ = some (.int .i64 x.id) ∧ W.cell? ⟨p, off + k * 8 + 1, none⟩ = some (.int .i64 x.cast) ∧ W.cell? ⟨p, off + k * 8 + 2, none⟩ = some (.int .i64 x.cool) ∧ W.cell? ⟨p, off + k * 8 + 3, none⟩ = some (.int .i64 x.charges) ∧ W.cell? ⟨p, off + k * 8 + 4, none⟩ = some (.int .i64 x.range) ∧ W.cell? ⟨p, off + k * 8 + 5, none⟩ = some (.int .i64 x.cost) ∧ W.cell? ⟨p, off + k * 8 + 6, none⟩ = some (.bool x.sight) ∧ W.cell? ⟨p, off + k * 8 + 7, none⟩ = some (.slice x.ea x.eff.length x.ec) := by
  obtain ⟨p, off, hA, hp, hc⟩ := row_in hr hx hb hB
  exact ⟨p, off, hA, hp, cellsAb hc⟩
theorem rowFo {w W : World} {B B' : Nat} {A : Option Addr} {l : List Fo} (hr : RW fo w B A l) {k : Nat} {x : Fo} (hx : l[k]? = some x) (hb : Below B' w W) (hB : B ≤ B') :
    ∃ p off, A = some ⟨p, off, none⟩ ∧ p < B ∧ W.cell? ⟨p, off + k * 8, none⟩ = some (.int .i64 x.id) ∧ W.cell? ⟨p, off + k * 8 + 1, none⟩ = some (.int .i64 x.health) ∧ W.cell? ⟨p, off + k * 8 + 2, none⟩ = some (.int .i64 x.hit) ∧ W.cell? ⟨p, off + k * 8 + 3, none⟩ = some (.int .i64 x.every) ∧ W.cell? ⟨p, off + k * 8 + 4, none⟩ = some (.int .i64 x.reach) ∧ W.cell? ⟨p, off + k * 8 + 5, none⟩ = some (.slice x.sa x.script.length x.sc) ∧ W.cell? ⟨p, off + k * 8 + 6, none⟩ = some (.slice x.ha x.hoard.length x.hc) ∧ W.cell? ⟨p, off + k * 8 + 7, none⟩ = some (.int .i64 x.drops) := by
  obtain ⟨p, off, hA, hp, hc⟩ := row_in hr hx hb hB
  exact ⟨p, off, hA, hp, cellsFo hc⟩
theorem rowAu {w W : World} {B B' : Nat} {A : Option Addr} {l : List Au} (hr : RW au w B A l) {k : Nat} {x : Au} (hx : l[k]? = some x) (hb : Below B' w W) (hB : B ≤ B') :
    ∃ p off, A = some ⟨p, off, none⟩ ∧ p < B ∧ W.cell? ⟨p, off + k * 7, none⟩ = some (.int .i64 x.id) ∧ W.cell? ⟨p, off + k * 7 + 1, none⟩ = some (.int .i64 x.kind) ∧ W.cell? ⟨p, off + k * 7 + 2, none⟩ = some (.int .i64 x.ticks) ∧ W.cell? ⟨p, off + k * 7 + 3, none⟩ = some (.int .i64 x.every) ∧ W.cell? ⟨p, off + k * 7 + 4, none⟩ = some (.int .i64 x.stacks) ∧ W.cell? ⟨p, off + k * 7 + 5, none⟩ = some (.int .i64 x.amount) ∧ W.cell? ⟨p, off + k * 7 + 6, none⟩ = some (.bool x.harm) := by
  obtain ⟨p, off, hA, hp, hc⟩ := row_in hr hx hb hB
  exact ⟨p, off, hA, hp, cellsAu hc⟩
theorem rowEf {w W : World} {B B' : Nat} {A : Option Addr} {l : List Ef} (hr : RW ef w B A l) {k : Nat} {x : Ef} (hx : l[k]? = some x) (hb : Below B' w W) (hB : B ≤ B') :
    ∃ p off, A = some ⟨p, off, none⟩ ∧ p < B ∧ W.cell? ⟨p, off + k * 3, none⟩ = some (.int .i64 x.kind) ∧ W.cell? ⟨p, off + k * 3 + 1, none⟩ = some (.int .i64 x.amount) ∧ W.cell? ⟨p, off + k * 3 + 2, none⟩ = some (.int .i64 x.aura) := by
  obtain ⟨p, off, hA, hp, hc⟩ := row_in hr hx hb hB
  exact ⟨p, off, hA, hp, cellsEf hc⟩
theorem rowLn {w W : World} {B B' : Nat} {A : Option Addr} {l : List Ln} (hr : RW ln w B A l) {k : Nat} {x : Ln} (hx : l[k]? = some x) (hb : Below B' w W) (hB : B ≤ B') :
    ∃ p off, A = some ⟨p, off, none⟩ ∧ p < B ∧ W.cell? ⟨p, off + k * 5, none⟩ = some (.int .i64 x.phase) ∧ W.cell? ⟨p, off + k * 5 + 1, none⟩ = some (.int .i64 x.whn) ∧ W.cell? ⟨p, off + k * 5 + 2, none⟩ = some (.int .i64 x.arg) ∧ W.cell? ⟨p, off + k * 5 + 3, none⟩ = some (.int .i64 x.dos) ∧ W.cell? ⟨p, off + k * 5 + 4, none⟩ = some (.int .i64 x.value) := by
  obtain ⟨p, off, hA, hp, hc⟩ := row_in hr hx hb hB
  exact ⟨p, off, hA, hp, cellsLn hc⟩
theorem rowPz {w W : World} {B B' : Nat} {A : Option Addr} {l : List Pz} (hr : RW pz w B A l) {k : Nat} {x : Pz} (hx : l[k]? = some x) (hb : Below B' w W) (hB : B ≤ B') :
    ∃ p off, A = some ⟨p, off, none⟩ ∧ p < B ∧ W.cell? ⟨p, off + k * 2, none⟩ = some (.int .i64 x.item) ∧ W.cell? ⟨p, off + k * 2 + 1, none⟩ = some (.int .i64 x.weight) := by
  obtain ⟨p, off, hA, hp, hc⟩ := row_in hr hx hb hB
  exact ⟨p, off, hA, hp, cellsPz hc⟩
theorem bstep {V X w1 : World} (h1 : Below X.heap.size X w1) (h : Below V.heap.size V X) : Below V.heap.size V w1 := h.trans (h1.mono h.size)
theorem ret_bool {a b : Bool} (h : a = b) : Ending.returned (.bool a) = .returned (.bool b) := by rw [h]
theorem of_iff {a : Bool} {x : Bool} {P : Prop} (hx : x = true ↔ P) (h : a = true ↔ P) : Ending.returned (.bool a) = .returned (.bool x) := by rw [iff_eq h hx]

theorem isIn_any (n lo hi : Int) (w : World) (x : Bool) (hx : x = true ↔ In n lo hi) : Calls Try.prog 78 #[.int .i64 n, .int .i64 lo, .int .i64 hi] w fun e w' => e = .returned (.bool x) ∧ w = w' := by
  have HX := Lib.hid hx; clear hx
  go_enter Try.func78, Try.ntmps78
  go_wp2
  all_goals
    go_ret
    exact ⟨of_iff HX.out (by unfold In; simp_all <;> omega), rfl⟩
theorem isAmount_any (n : Int) (w : World) (x : Bool) (hx : x = true ↔ Amt n) : Calls Try.prog 77 #[.int .i64 n] w fun e w' => e = .returned (.bool x) ∧ w = w' := by
  have HX : Hid (x = true ↔ In n 0 1000000) := Lib.hid hx
  clear hx
  go_enter Try.func77, Try.ntmps77
  go_wp2_with (first | ((with_reducible refine (isIn_any _ _ _ _ x HX.out).mono ?_); rintro e w' ⟨rfl, rfl⟩))
  go_ret
  exact ⟨rfl, rfl⟩
theorem abilityId_any (a : Ab) (w : World) : Calls Try.prog 61 #[abv a] w fun e w' => e = .returned (.int .i64 a.id) ∧ Below w.heap.size w w' := by
  go_enter Try.func61, Try.ntmps61
  go_wp2
  go_ret
  exact ⟨rfl, (Below.refl _ w).alloc (Nat.le_refl _) _⟩
theorem auraId_any (a : Au) (w : World) : Calls Try.prog 52 #[auv a] w fun e w' => e = .returned (.int .i64 a.id) ∧ Below w.heap.size w w' := by
  go_enter Try.func52, Try.ntmps52
  go_wp2
  go_ret
  exact ⟨rfl, (Below.refl _ w).alloc (Nat.le_refl _) _⟩
theorem foeId_any (a : Fo) (w : World) : Calls Try.prog 67 #[fov a] w fun e w' => e = .returned (.int .i64 a.id) ∧ Below w.heap.size w w' := by
  go_enter Try.func67, Try.ntmps67
  go_wp2
  go_ret
  exact ⟨rfl, (Below.refl _ w).alloc (Nat.le_refl _) _⟩
theorem isPrize_any (p : Pz) (w : World) (x : Bool) (hx : x = true ↔ PzOk p) : Calls Try.prog 95 #[pzv p] w fun e w' => e = .returned (.bool x) ∧ Below w.heap.size w w' := by
  obtain ⟨x1, h1⟩ := bex (In p.item 1 1000000)
  obtain ⟨x2, h2⟩ := bex (In p.weight 1 1000000)
  have HX := Lib.hid hx; have H1 := Lib.hid h1; have H2 := Lib.hid h2; clear hx h1 h2
  have hb : Below w.heap.size w (w.alloc (.cells #[.int .i64 p.item, .int .i64 p.weight] 122)) := (Below.refl _ w).alloc (Nat.le_refl _) _
  go_enter Try.func95, Try.ntmps95
  go_wp2_with (first | ((with_reducible refine (isIn_any _ _ _ _ x1 H1.out).mono ?_); rintro e w' ⟨rfl, rfl⟩) | ((with_reducible refine (isIn_any _ _ _ _ x2 H2.out).mono ?_); rintro e w' ⟨rfl, rfl⟩))
  all_goals
    go_ret
    exact ⟨of_iff HX.out (by unfold PzOk; rw [← H1.out, ← H2.out]; simp_all), hb⟩
end Go.Proofs.Ytijobbdgiaiocaa.Con
