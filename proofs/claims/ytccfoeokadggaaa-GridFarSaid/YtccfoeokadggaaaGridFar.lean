/-
  GridFar: for every two tiles and every number the law answers true (Square, Steps and Near answer as the document's own answers do); no condition.
-/
import Derived.Test.YtccfoeokadggaaaSma
import Derived.Test.YtccfoeokadggaaaOpen
import Derived.WalkKit
import Derived.ProofKit
import Derived.OpenShut
namespace Go.Proofs.Ytccfoeokadggaaa.gridFar
open Go.ChangeShapes Go.WideShapes Go.ChangeAt Go.RowKit Con Wlk
set_option linter.unusedVariables false

theorem own : ownKnob Try.prog.godebug = none := by kernel_rfl

theorem cell_below {V V' : World} {b k : Nat} {v : Value} (h : V.cell? ⟨b, k, none⟩ = some v) (hb : Below V.heap.size V V') : V'.cell? ⟨b, k, none⟩ = some v :=
  (hb.cell (p := ⟨b, k, none⟩) (World.block_lt_of_cell? _ _ h)).trans h
theorem more {A B C : World} (h : Below A.heap.size A B) (k : Below B.heap.size B C) : Below A.heap.size A C := h.trans (k.mono h.size)
/-- Both tiles' cells. -/
theorem both {V V' : World} {s : Nat} {ax ay bx by' : Int} (h : V.cell? ⟨s, 0, none⟩ = some (.int .i64 ax) ∧ V.cell? ⟨s, 1, none⟩ = some (.int .i64 ay) ∧ V.cell? ⟨s + 1, 0, none⟩ = some (.int .i64 bx) ∧ V.cell? ⟨s + 1, 1, none⟩ = some (.int .i64 by')) (hb : Below V.heap.size V V') :
    V'.cell? ⟨s, 0, none⟩ = some (.int .i64 ax) ∧ V'.cell? ⟨s, 1, none⟩ = some (.int .i64 ay) ∧ V'.cell? ⟨s + 1, 0, none⟩ = some (.int .i64 bx) ∧ V'.cell? ⟨s + 1, 1, none⟩ = some (.int .i64 by') :=
  ⟨cell_below h.1 hb, cell_below h.2.1 hb, cell_below h.2.2.1 hb, cell_below h.2.2.2 hb⟩
theorem both0 (w : World) (ax ay bx by' : Int) : ∀ V, V = (w.alloc (.cells #[.int .i64 ax, .int .i64 ay] 23)).alloc (.cells #[.int .i64 bx, .int .i64 by'] 23) →
    V.cell? ⟨w.heap.size, 0, none⟩ = some (.int .i64 ax) ∧ V.cell? ⟨w.heap.size, 1, none⟩ = some (.int .i64 ay) ∧ V.cell? ⟨w.heap.size + 1, 0, none⟩ = some (.int .i64 bx) ∧ V.cell? ⟨w.heap.size + 1, 1, none⟩ = some (.int .i64 by') := by
  rintro V rfl
  have h1 : BoxP ((w.alloc (.cells #[.int .i64 ax, .int .i64 ay] 23)).alloc (.cells #[.int .i64 bx, .int .i64 by'] 23)) w.heap.size ax ay := old_at (new_at _ _ rfl)
  have h2 : BoxP ((w.alloc (.cells #[.int .i64 ax, .int .i64 ay] 23)).alloc (.cells #[.int .i64 bx, .int .i64 by'] 23)) (w.heap.size + 1) bx by' := new_at _ _ (by simp)
  exact ⟨h1.cell0, h1.cell1, h2.cell0, h2.cell1⟩

set_option maxRecDepth 100000 in
set_option maxHeartbeats 4000000 in
theorem walk (W : World) (ax ay : Int) (h1 : Fits ax) (h2 : Fits ay) (bx by' : Int) (h3 : Fits bx) (h4 : Fits by') (r : Int) (h5 : Fits r) :
    Calls Try.prog 3 #[pv ax ay, pv bx by', .int .i64 r] W fun e w' => e = .returned (.bool true) ∧ Below W.heap.size W w' := by
  have hb := box2 W ax ay bx by'
  have hK := both0 W ax ay bx by' _ rfl
  have HK := Lib.hid hK; clear hK
  go_enter Try.func3, Try.ntmps3
  go_wp2_with (first
    | ((with_reducible refine (small_any _).mono ?_); rintro e w1 ⟨rfl, hB1⟩; have K1 := both HK.out hB1; have HB1 := Lib.hid (hb.trans (hB1.mono hb.size)); clear hB1))
  go_region_held3 (fun V => V.cell? ⟨W.heap.size, 0, none⟩ = some (.int .i64 ax) ∧ V.cell? ⟨W.heap.size, 1, none⟩ = some (.int .i64 ay) ∧ V.cell? ⟨W.heap.size + 1, 0, none⟩ = some (.int .i64 bx) ∧ V.cell? ⟨W.heap.size + 1, 1, none⟩ = some (.int .i64 by'))
    (first | exact K1 | exact K2 | exact K3 | exact K4 | exact K5 | exact K6 | exact K7 | go_keep)
    ((first
    | ((with_reducible refine (square_any ax ay bx by' _ h1 h2 h3 h4).mono ?_); rintro e w2 ⟨rfl, hB2⟩; have K2 := both (V := w1.drew) K1 hB2)
    | ((with_reducible refine (rsquare_any ax ay bx by' _ h1 h2 h3 h4).mono ?_); rintro e w3 ⟨rfl, hB3⟩; have K3 := both K2 hB3)
    | ((with_reducible refine (Con.steps_any ax ay bx by' _ h1 h2 h3 h4).mono ?_); rintro e w4 ⟨rfl, hB4⟩; have K4 := both K3 hB4)
    | ((with_reducible refine (rsteps_any ax ay bx by' _ h1 h2 h3 h4).mono ?_); rintro e w5 ⟨rfl, hB5⟩; have K5 := both K4 hB5)
    | ((with_reducible refine (near_any ax ay bx by' r _ h1 h2 h3 h4 h5).mono ?_); rintro e w6 ⟨rfl, hB6⟩; have K6 := both K5 hB6)
    | ((with_reducible refine (rnear_any ax ay bx by' r _ h1 h2 h3 h4 h5).mono ?_); rintro e w7 ⟨rfl, hB7⟩; have K7 := both K6 hB7)))
  go_wp2
  go_ret
  have g2 : Below w1.heap.size w1 w2 := ((Below.refl _ w1).drew).trans hB2
  have g3 := more g2 hB3
  have g4 := more g3 hB4
  have g5 := more g4 hB5
  have g6 := more g5 hB6
  have g7 := more g6 hB7
  exact ⟨rfl, HB1.out.trans (g7.mono HB1.out.size)⟩


set_option maxRecDepth 100000 in
theorem lifted (os : Os) (started : os.Started) (H : Type) (enc : TypeId × Value → H) :
    ReturnsInHanded {} Try.checked os 3 .any (Rows.gridFarSpec.pre6 enc Try.prog Try.f3 Rows.gridFarRow.domain false) (Rows.gridFarSpec.post enc Try.prog Try.f3 false true false false) := by
  refine returnsInHanded_of_change (C := Try.checked) own started (by kernel_rfl) Try.func3
    (ChangeSpec.witness6 (enc := enc) (C := Try.checked) false ⟨#[], #[.agg #[.int .i64 0, .int .i64 0], .agg #[.int .i64 0, .int .i64 0], .int .i64 0], []⟩ 8 (by kernel_rfl) (by kernel_rfl) (by kernel_rfl) (by kernel_rfl)) ?_
  intro W base args ds gs before hval0 hW hcnd _
  have hval : ∀ (j : Nat) t v, Try.f3.params[j]? = some t → args[j]? = some v → Value.okWide Try.prog W .any base t v := hval0
  have hW' := hW
  obtain ⟨p, q, hA0, hV, rfl, hfz, hnd⟩ := hW
  have hA : DataW.TrodAll enc Try.prog W 0 (fun _ => true) true Try.f3.params.toList args.toList ds p := hA0
  rw [Try.params3] at hA hval
  obtain ⟨v0, vs0, d0, ds0, p0, q0, hargs, rfl, rfl, h0, r0⟩ := trodAll_cons hA
  obtain ⟨v1, vs1, d1, ds1, p1, q1, rfl, rfl, rfl, h1, r1⟩ := trodAll_cons r0
  obtain ⟨v2, vs2, d2, ds2, p2, q2, rfl, rfl, rfl, h2, r2⟩ := trodAll_cons r1
  obtain ⟨rfl, rfl, rfl⟩ := trodAll_nil r2
  obtain rfl : args = #[v0, v1, v2] := by cases args; simp_all
  obtain ⟨rfl, rfl⟩ := trodVars_none hV
  clear hA0 hval0
  have hlt0 : ∀ x ∈ p0, x.block < W.heap.size := fun x hx => hW'.lt x (by simp [hx])
  have hk0 := h0
  obtain ⟨x0, y0, rfl, fx0, fy0⟩ := Open.viewP (hval 0 23 v0 rfl rfl) h0
  have hlt1 : ∀ x ∈ p1, x.block < W.heap.size := fun x hx => hW'.lt x (by simp [hx])
  have hk1 := h1
  obtain ⟨x1, y1, rfl, fx1, fy1⟩ := Open.viewP (hval 1 23 v1 rfl rfl) h1
  obtain ⟨a2, rfl, rfl, rfl, w2⟩ := open_int Try.underlying3 (hval 2 3 v2 rfl rfl) h2
  simp only [List.append_nil] at hW'
  refine (walk W x0 y0 fx0 fy0 x1 y1 fx1 fy1 a2 (Open.fits_of w2)).mono fun e W' ⟨he, hg⟩ => ?_
  subst he
  exact ⟨_, rfl, _, _, _, [], _, [], hW', (trodAll_cons_mk (shut_bool Try.underlying4 _) trodAll_mk0), (trodAll_cons_mk (Below.trod Open.laidOut (by kernel_rfl) (of_decide_eq_true (by kernel_rfl)) hk0 hg hlt0) (trodAll_cons_mk (Below.trod Open.laidOut (by kernel_rfl) (of_decide_eq_true (by kernel_rfl)) hk1 hg hlt1) (trodAll_cons_mk (shut_int Try.underlying3 w2) trodAll_mk0))), rfl, hg.frame _, fun h => by cases h⟩

theorem over : Rows.gridFarRow.holds Try.pinned (OpenSpec.ofChange Rows.gridFarSpec) :=
  OpenClaim.holds_of_wide 3 Try.f3 rfl rfl rfl rfl rfl rfl rfl ⟨rfl, rfl, rfl, rfl, rfl⟩ rfl rfl rfl rfl rfl (by kernel_rfl) Try.func3 (by kernel_rfl)
    (of_decide_eq_true (by kernel_rfl)) (by unfold Func.isWrapper; first | (rw [if_pos (by decide +kernel)]; kernel_rfl) | (rw [if_neg (by decide +kernel)]; exact ⟨rfl, rfl⟩))
    (fun os started H enc _ => lifted os started H enc)

/-- The given statement. -/
theorem proved : Rows.GridFarSaid :=
  over
#print axioms proved
end Go.Proofs.Ytccfoeokadggaaa.gridFar
