/-
  Contracts of isAbility, isFoe, isHoard, isMap and of the closures of Check.
-/
import Derived.Test.YtijobbdgiaiocaaAll
namespace Go.Proofs.Ytijobbdgiaiocaa.Con
open Go.RowKit Go.Maps

abbrev oCn (c : Cn) : Obj := .cells #[.slice c.aA c.ab.length c.aC, .slice c.uA c.au.length c.uC, .slice c.fA c.fo.length c.fC, .int .i64 c.W, .int .i64 c.H, .slice c.gA c.wl.length c.gC, .int .i64 c.dx, .int .i64 c.dy, .int .i64 c.lx, .int .i64 c.ly] 31
abbrev oAb (x : Ab) : Obj := .cells #[.int .i64 x.id, .int .i64 x.cast, .int .i64 x.cool, .int .i64 x.charges, .int .i64 x.range, .int .i64 x.cost, .bool x.sight, .slice x.ea x.eff.length x.ec] 62
abbrev oFo (x : Fo) : Obj := .cells #[.int .i64 x.id, .int .i64 x.health, .int .i64 x.hit, .int .i64 x.every, .int .i64 x.reach, .slice x.sa x.script.length x.sc, .slice x.ha x.hoard.length x.hc, .int .i64 x.drops] 66
abbrev oAu (x : Au) : Obj := .cells #[.int .i64 x.id, .int .i64 x.kind, .int .i64 x.ticks, .int .i64 x.every, .int .i64 x.stacks, .int .i64 x.amount, .bool x.harm] 54
theorem at_cn (w : World) (c : Cn) : At (w.alloc (oCn c)) w.heap.size (cnc c) := by
  intro j v hv
  have h := blk_cell (heap_alloc_new w (oCn c)) (Below.refl _ _) (by simp : w.heap.size < (w.alloc (oCn c)).heap.size) j
  rw [h]
  have e : (cnc c)[j]? = (#[.slice c.aA c.ab.length c.aC, .slice c.uA c.au.length c.uC, .slice c.fA c.fo.length c.fC, .int .i64 c.W, .int .i64 c.H, .slice c.gA c.wl.length c.gC, .int .i64 c.dx, .int .i64 c.dy, .int .i64 c.lx, .int .i64 c.ly] : Array Value)[j]? := by
    unfold cnc; simp
  rw [← e]; exact hv

set_option maxRecDepth 20000 in
set_option maxHeartbeats 4000000 in
theorem isAbility_any {w : World} {B : Nat} {c : Cn} (hr : RC w B c) (hB : B ≤ w.heap.size) (hs : Sm c) (a : Ab) (he : RW ef w B a.ea a.eff) (hle : (a.eff.length : Int) ≤ 50000) (x : Bool) (hx : x = true ↔ AbOk c a) :
    Calls Try.prog 63 #[cnv c, abv a] w fun e w' => e = .returned (.bool x) ∧ Below w.heap.size w w' := by
  obtain ⟨x1, h1⟩ := bex (Amt a.cast)
  obtain ⟨x2, h2⟩ := bex (Amt a.cool)
  obtain ⟨x3, h3⟩ := bex (Amt a.range)
  obtain ⟨x4, h4⟩ := bex (Amt a.cost)
  obtain ⟨x5, h5⟩ := bex (In a.charges 1 100)
  obtain ⟨x6, h6⟩ := bex (In a.eff.length 1 16)
  obtain ⟨x7, h7⟩ := bex (∀ e ∈ a.eff, EfOk c e)
  have hb1 : Below w.heap.size w (w.alloc (oCn c)) := by go_grown
  have hb : Below w.heap.size w ((w.alloc (oCn c)).alloc (oAb a)) := by go_grown
  have hA := (at_cn w c).of (w' := (w.alloc (oCn c)).alloc (oAb a)) (B := (w.alloc (oCn c)).heap.size) (by go_grown) (by simp)
  have HC := Lib.hid (all_ef (w := (w.alloc (oCn c)).alloc (oAb a)) (c := a.ec) w.heap.size rfl (by omega) (he.below hb hB) (Nat.le_trans hB hb.size) (EfOk c) (fun V hV q _ x' hx' => by
    have h2 := hb.trans (hV.mono hb.size)
    exact effc (hr.below h2 hB) (Nat.le_trans hB h2.size) hs (hA.of hV (by simp; omega)) (Nat.lt_of_lt_of_le (by simp; omega) hV.size) q x' hx') x7 h7)
  have HX := Lib.hid hx; have H1 := Lib.hid h1; have H2 := Lib.hid h2; have H3 := Lib.hid h3; have H4 := Lib.hid h4; have H5 := Lib.hid h5; have H6 := Lib.hid h6; have H7 := Lib.hid h7
  clear hr hs he hx h1 h2 h3 h4 h5 h6 h7 hA hb1
  go_enter Try.func63, Try.ntmps63
  go_wp2_with (first
    | ((with_reducible refine (isAmount_any _ _ x1 H1.out).mono ?_); rintro e w' ⟨rfl, rfl⟩)
    | ((with_reducible refine (isAmount_any _ _ x2 H2.out).mono ?_); rintro e w' ⟨rfl, rfl⟩)
    | ((with_reducible refine (isAmount_any _ _ x3 H3.out).mono ?_); rintro e w' ⟨rfl, rfl⟩)
    | ((with_reducible refine (isAmount_any _ _ x4 H4.out).mono ?_); rintro e w' ⟨rfl, rfl⟩)
    | ((with_reducible refine (isIn_any _ _ _ _ x5 H5.out).mono ?_); rintro e w' ⟨rfl, rfl⟩)
    | ((with_reducible refine (isIn_any _ _ _ _ x6 H6.out).mono ?_); rintro e w' ⟨rfl, rfl⟩)
    | ((with_reducible refine HC.out.mono ?_); rintro e w1 ⟨rfl, hB1⟩; have hV1 := bstep hB1 (V := w) hb))
  all_goals
    go_ret
    exact ⟨of_iff HX.out (by unfold AbOk; rw [← H1.out, ← H2.out, ← H3.out, ← H4.out, ← H5.out, ← H6.out, ← H7.out]; simp_all), by first | assumption | go_grown⟩

theorem chk1 {V : World} {B b : Nat} {c : Cn} (hr : RC V B c) (hB : B ≤ V.heap.size) (hs : Sm c) (hb : At V b (cnc c)) (hbl : b < V.heap.size) (a : Ab) (he : RW ef V B a.ea a.eff) (hle : (a.eff.length : Int) ≤ 50000) (x : Bool) (hx : x = true ↔ AbOk c a) :
    Calls Try.prog 62 #[abv a, pt b] V fun e w' => e = .returned (.bool x) ∧ Below V.heap.size V w' := by
  obtain ⟨c0, c1, c2, c3, c4, c5, c6, c7, c8, c9⟩ := hb.ten
  have HR := Lib.hid hr; have HX := Lib.hid hx; have HS := Lib.hid hs; have HE := Lib.hid he
  clear hr hx hs hb he
  go_enter Try.func62, Try.ntmps62
  go_wp2_with (first | ((with_reducible refine (isAbility_any (HR.out.below (by go_grown) hB) (by go_size) HS.out a (HE.out.below (by go_grown) hB) hle x HX.out).mono ?_); rintro e w1 ⟨rfl, hB1⟩; have hV1 := bstep hB1 (V := V) (by go_grown)))
  go_ret
  exact ⟨rfl, hV1⟩

set_option maxRecDepth 20000 in
set_option maxHeartbeats 4000000 in
theorem isHoard_any {w : World} {B : Nat} (a : Fo) (he : RW pz w B a.ha a.hoard) (hB : B ≤ w.heap.size) (hle : (a.hoard.length : Int) ≤ 50000) (x : Bool) (hx : x = true ↔ HoOk a) :
    Calls Try.prog 82 #[fov a] w fun e w' => e = .returned (.bool x) ∧ Below w.heap.size w w' := by
  obtain ⟨x2, h2⟩ := bex (In a.drops 0 16)
  obtain ⟨x7, h7⟩ := bex (∀ e ∈ a.hoard, PzOk e)
  have hb : Below w.heap.size w (w.alloc (oFo a)) := by go_grown
  have HC := Lib.hid (all_pz (w := w.alloc (oFo a)) (c := a.hc) rfl (by omega) (he.below hb hB) (Nat.le_trans hB hb.size) PzOk (fun V hV q _ x' hx' => isPrize_any q V x' hx') x7 h7)
  have HX := Lib.hid hx; have H2 := Lib.hid h2; have H7 := Lib.hid h7
  clear he hx h2 h7
  by_cases hd : a.drops = 0
  · have hd' : (a.drops != 0) = false := by simpa using hd
    have HD := Lib.hid hd
    clear hd
    go_enter Try.func82, Try.ntmps82
    go_wp2_with (first
      | ((with_reducible refine (isIn_any _ _ _ _ x2 H2.out).mono ?_); rintro e w' ⟨rfl, rfl⟩)
      | ((with_reducible refine HC.out.mono ?_); rintro e w1 ⟨rfl, hB1⟩; have hV1 := bstep hB1 (V := w) hb))
    all_goals
      go_ret
      exact ⟨of_iff HX.out (by have h2 := H2.out; have hd := HD.out; unfold HoOk; rw [← H7.out]; unfold In at h2 ⊢; simp_all <;> omega), by first | assumption | go_grown⟩
  · have hd' : (a.drops != 0) = true := by simpa using hd
    have HD := Lib.hid hd
    clear hd
    go_enter Try.func82, Try.ntmps82
    go_wp2_with (first
      | ((with_reducible refine (isIn_any _ _ _ _ x2 H2.out).mono ?_); rintro e w' ⟨rfl, rfl⟩)
      | ((with_reducible refine HC.out.mono ?_); rintro e w1 ⟨rfl, hB1⟩; have hV1 := bstep hB1 (V := w) hb))
    all_goals
      go_ret
      exact ⟨of_iff HX.out (by have h2 := H2.out; have hd := HD.out; unfold HoOk; rw [← H7.out]; unfold In at h2 ⊢; simp_all <;> omega), by first | assumption | go_grown⟩

set_option maxRecDepth 20000 in
set_option maxHeartbeats 4000000 in
theorem isFoe_any {w : World} {B : Nat} {c : Cn} (hr : RC w B c) (hB : B ≤ w.heap.size) (hs : Sm c) (a : Fo) (hsc : RW ln w B a.sa a.script) (hho : RW pz w B a.ha a.hoard) (hle : (a.script.length : Int) ≤ 50000) (hlh : (a.hoard.length : Int) ≤ 50000) (x : Bool) (hx : x = true ↔ FoOk c a) :
    Calls Try.prog 69 #[cnv c, fov a] w fun e w' => e = .returned (.bool x) ∧ Below w.heap.size w w' := by
  obtain ⟨x1, h1⟩ := bex (In a.health 1 1000000)
  obtain ⟨x2, h2⟩ := bex (Amt a.hit)
  obtain ⟨x3, h3⟩ := bex (Amt a.reach)
  obtain ⟨x4, h4⟩ := bex (In a.every 1 1000000)
  obtain ⟨x5, h5⟩ := bex (HoOk a)
  obtain ⟨x7, h7⟩ := bex (∀ e ∈ a.script, LnOk c e)
  have hb : Below w.heap.size w ((w.alloc (oCn c)).alloc (oFo a)) := by go_grown
  have hA := (at_cn w c).of (w' := (w.alloc (oCn c)).alloc (oFo a)) (B := (w.alloc (oCn c)).heap.size) (by go_grown) (by simp)
  have HALL : Hid (∀ V, Below w.heap.size w V → Below ((w.alloc (oCn c)).alloc (oFo a)).heap.size ((w.alloc (oCn c)).alloc (oFo a)) V → Calls Try.prog 83 #[.slice a.sa a.script.length a.sc, .func (.func 84) #[] #[pt w.heap.size]] V fun e w' => e = .returned (.bool x7) ∧ Below V.heap.size V w') := Lib.hid (fun V hwV hXV =>
    all_ln (w := V) (c := a.sc) w.heap.size rfl (by omega) (hsc.below hwV hB) (Nat.le_trans hB hwV.size) (LnOk c) (fun V' hV' q _ x' hx' => by
      have h2 := hwV.trans (hV'.mono hwV.size)
      have hA2 := hA.of hXV (by simp; omega)
      have hlt : w.heap.size < V.heap.size := Nat.lt_of_lt_of_le (by simp; omega) hXV.size
      exact linc (hr.below h2 hB) (Nat.le_trans hB h2.size) hs (hA2.of hV' hlt) (Nat.lt_of_lt_of_le hlt hV'.size) q x' hx') x7 h7)
  have hX : Below ((w.alloc (oCn c)).alloc (oFo a)).heap.size ((w.alloc (oCn c)).alloc (oFo a)) ((w.alloc (oCn c)).alloc (oFo a)) := Below.refl _ _
  have HHO := Lib.hid (isHoard_any (w := (w.alloc (oCn c)).alloc (oFo a)) a (hho.below hb hB) (Nat.le_trans hB hb.size) hlh x5 h5)
  have HX := Lib.hid hx; have H1 := Lib.hid h1; have H2 := Lib.hid h2; have H3 := Lib.hid h3; have H4 := Lib.hid h4; have H5 := Lib.hid h5; have H7 := Lib.hid h7
  clear hr hs hsc hho hx h1 h2 h3 h4 h5 h7 hA hX
  go_enter Try.func69, Try.ntmps69
  go_wp2_with (first
    | ((with_reducible refine (isIn_any _ _ _ _ x1 H1.out).mono ?_); rintro e w' ⟨rfl, rfl⟩)
    | ((with_reducible refine (isAmount_any _ _ x2 H2.out).mono ?_); rintro e w' ⟨rfl, rfl⟩)
    | ((with_reducible refine (isAmount_any _ _ x3 H3.out).mono ?_); rintro e w' ⟨rfl, rfl⟩)
    | ((with_reducible refine (isIn_any _ _ _ _ x4 H4.out).mono ?_); rintro e w' ⟨rfl, rfl⟩)
    | ((with_reducible refine HHO.out.mono ?_); rintro e w1 ⟨rfl, hB1⟩; have hV1 := bstep hB1 (V := w) hb; have g1 := fun o => hB1.cell (p := ⟨w.heap.size + 1, o, none⟩) (by go_size))
    | ((with_reducible refine (HALL.out _ hV1 hB1).mono ?_); rintro e w2 ⟨rfl, hB2⟩; have hV2 := bstep hB2 (V := w) hV1))
  all_goals
    go_ret
    exact ⟨of_iff HX.out (by unfold FoOk; rw [← H1.out, ← H2.out, ← H3.out, ← H4.out, ← H5.out, ← H7.out]; simp_all <;> omega), by first | assumption | go_grown⟩

theorem chk2 {V : World} {B b : Nat} {c : Cn} (hr : RC V B c) (hB : B ≤ V.heap.size) (hs : Sm c) (hb : At V b (cnc c)) (hbl : b < V.heap.size) (a : Fo) (hsc : RW ln V B a.sa a.script) (hho : RW pz V B a.ha a.hoard) (hle : (a.script.length : Int) ≤ 50000) (hlh : (a.hoard.length : Int) ≤ 50000) (x : Bool) (hx : x = true ↔ FoOk c a) :
    Calls Try.prog 68 #[fov a, pt b] V fun e w' => e = .returned (.bool x) ∧ Below V.heap.size V w' := by
  obtain ⟨c0, c1, c2, c3, c4, c5, c6, c7, c8, c9⟩ := hb.ten
  have HR := Lib.hid hr; have HX := Lib.hid hx; have HS := Lib.hid hs; have HE := Lib.hid hsc; have HF := Lib.hid hho
  clear hr hx hs hb hsc hho
  go_enter Try.func68, Try.ntmps68
  go_wp2_with (first | ((with_reducible refine (isFoe_any (HR.out.below (by go_grown) hB) (by go_size) HS.out a (HE.out.below (by go_grown) hB) (HF.out.below (by go_grown) hB) hle hlh x HX.out).mono ?_); rintro e w1 ⟨rfl, hB1⟩; have hV1 := bstep hB1 (V := V) (by go_grown)))
  go_ret
  exact ⟨rfl, hV1⟩

/-- The map is right, the door and the lair are no walls. -/
def MapOk (c : Cn) : Prop := rightB c.W c.H c.wl.length = true ∧ wallB c.W c.H c.wl c.dx c.dy = false ∧ wallB c.W c.H c.wl c.lx c.ly = false
set_option maxRecDepth 20000 in
set_option maxHeartbeats 4000000 in
theorem isMap_any {w : World} {B : Nat} {c : Cn} (hr : RC w B c) (hB : B ≤ w.heap.size) (x : Bool) (hx : x = true ↔ MapOk c) :
    Calls Try.prog 70 #[cnv c] w fun e w' => e = .returned (.bool x) ∧ Below w.heap.size w w' := by
  obtain ⟨x1, h1⟩ : ∃ x1, rightB c.W c.H c.wl.length = x1 := ⟨_, rfl⟩
  obtain ⟨x2, h2⟩ : ∃ x1, wallB c.W c.H c.wl c.dx c.dy = x1 := ⟨_, rfl⟩
  obtain ⟨x3, h3⟩ : ∃ x1, wallB c.W c.H c.wl c.lx c.ly = x1 := ⟨_, rfl⟩
  have HR := Lib.hid hr; have HX := Lib.hid hx; have H1 := Lib.hid h1; have H2 := Lib.hid h2; have H3 := Lib.hid h3
  clear hr hx h1 h2 h3
  go_enter Try.func70, Try.ntmps70
  go_wp2_with (first
    | ((with_reducible refine (right_any _ _ _ _ _ _).mono ?_); rintro e w1 ⟨rfl, hB1⟩; rw [H1.out]; have hV1 := bstep hB1 (V := w) (by go_grown); have g1 := fun o => hB1.cell (p := ⟨w.heap.size, o, none⟩) (by go_size); have hs1 : w.heap.size < w1.heap.size := Nat.lt_of_lt_of_le (by simp) hB1.size)
    | ((with_reducible refine (wall_any c.W c.H c.gA c.wl c.gC c.dx c.dy _ B (HR.out.wls.below (by go_grown) hB) (by go_size)).mono ?_); rintro e w2 ⟨rfl, hB2⟩; rw [H2.out]; have hV2 := bstep hB2 (V := w) (by go_grown); have g2 := fun o => hB2.cell (p := ⟨w.heap.size, o, none⟩) (by go_size); have hs2 := hV2.size)
    | ((with_reducible refine (wall_any c.W c.H c.gA c.wl c.gC c.lx c.ly _ B (HR.out.wls.below (by go_grown) hB) (by go_size)).mono ?_); rintro e w3 ⟨rfl, hB3⟩; rw [H3.out]; have hV3 := bstep hB3 (V := w) (by go_grown)))
  all_goals
    go_ret
    exact ⟨of_iff HX.out (by unfold MapOk; rw [H1.out, H2.out, H3.out]; simp_all), by first | assumption | go_grown⟩
end Go.Proofs.Ytijobbdgiaiocaa.Con
