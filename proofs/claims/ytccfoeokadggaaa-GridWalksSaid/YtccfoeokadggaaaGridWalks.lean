/-
  GridWalks: for every grid, every two tiles and every number the law answers true (Toward answers as the document's own answer does); no condition (grids of more than 1024 walls are let by, as the law says).
-/
import Derived.Test.YtccfoeokadggaaaSma
import Derived.Test.YtccfoeokadggaaaOpen
import Derived.Test.YtccfoeokadggaaaRtw
import Derived.WalkKit
import Derived.ProofKit
import Derived.OpenShut
namespace Go.Proofs.Ytccfoeokadggaaa.gridWalks
open Go.ChangeShapes Go.WideShapes Go.ChangeAt Go.RowKit Con Wlk
set_option linter.unusedVariables false

theorem own : ownKnob Try.prog.godebug = none := by kernel_rfl

/-- A grid and two tiles in their boxes. -/
structure GAt (gw gh : Int) (A : Option Addr) (k c : Nat) (ax ay bx by' : Int) (W V : World) : Prop where
  grid : V.heap[W.heap.size]? = some (.cells #[.int .i64 gw, .int .i64 gh, .slice A k c] 29 (0, 0))
  a : BoxP V (W.heap.size + 1) ax ay
  b : BoxP V (W.heap.size + 1 + 1) bx by'
  below : Below W.heap.size W V
abbrev gopen (gw gh : Int) (A : Option Addr) (k c : Nat) (ax ay bx by' : Int) (w : World) : World :=
  ((w.alloc (.cells #[.int .i64 gw, .int .i64 gh, .slice A k c] 29)).alloc (.cells #[.int .i64 ax, .int .i64 ay] 23)).alloc (.cells #[.int .i64 bx, .int .i64 by'] 23)
theorem GAt.start (gw gh : Int) (A : Option Addr) (k c : Nat) (ax ay bx by' : Int) (w : World) : GAt gw gh A k c ax ay bx by' w (gopen gw gh A k c ax ay bx by' w) :=
  ⟨old_at (old_at (new_at _ _ rfl)), old_at (new_at _ _ (by simp)), new_at _ _ (by simp), (((Below.refl _ w).alloc (Nat.le_refl _) _).alloc (by simp) _).alloc (by simp; omega) _⟩
theorem GAt.of {gw gh : Int} {A : Option Addr} {k c : Nat} {ax ay bx by' : Int} {W V V' : World} (h : GAt gw gh A k c ax ay bx by' W V) (hb : Below V.heap.size V V') : GAt gw gh A k c ax ay bx by' W V' :=
  ⟨(hb.block _ (Array.getElem?_eq_some_iff.1 h.grid).1).trans h.grid, h.a.kept (hb.block _ h.a.lt), h.b.kept (hb.block _ h.b.lt), h.below.trans (hb.mono h.below.size)⟩
theorem GAt.drew {gw gh : Int} {A : Option Addr} {k c : Nat} {ax ay bx by' : Int} {W V : World} (h : GAt gw gh A k c ax ay bx by' W V) : GAt gw gh A k c ax ay bx by' W V.drew := h.of (Below.refl _ _).drew
theorem GAt.cells {gw gh : Int} {A : Option Addr} {k c : Nat} {ax ay bx by' : Int} {W V : World} (h : GAt gw gh A k c ax ay bx by' W V) :
    V.cell? ⟨W.heap.size, 0, none⟩ = some (.int .i64 gw) ∧ V.cell? ⟨W.heap.size, 1, none⟩ = some (.int .i64 gh) ∧ V.cell? ⟨W.heap.size, 2, none⟩ = some (.slice A k c) ∧
    V.cell? ⟨W.heap.size + 1, 0, none⟩ = some (.int .i64 ax) ∧ V.cell? ⟨W.heap.size + 1, 1, none⟩ = some (.int .i64 ay) ∧ V.cell? ⟨W.heap.size + 1 + 1, 0, none⟩ = some (.int .i64 bx) ∧ V.cell? ⟨W.heap.size + 1 + 1, 1, none⟩ = some (.int .i64 by') :=
  ⟨by simp [World.cell?, h.grid], by simp [World.cell?, h.grid], by simp [World.cell?, h.grid], h.a.cell0, h.a.cell1, h.b.cell0, h.b.cell1⟩

set_option maxRecDepth 100000 in
set_option maxHeartbeats 4000000 in
theorem walk (W : World) (gw gh : Int) (A : Option Addr) (c : Nat) (l : List Bool) (fw : Fits gw) (fh : Fits gh) (hr : RB W W.heap.size A l) (ax ay : Int) (h1 : Fits ax) (h2 : Fits ay) (bx by' : Int) (h3 : Fits bx) (h4 : Fits by') (n : Int) (h5 : Fits n) :
    Calls Try.prog 4 #[gv gw gh A l.length c, pv ax ay, pv bx by', .int .i64 n] W fun e w' => e = .returned (.bool true) ∧ Below W.heap.size W w' := by
  have HG0 := Lib.hid (GAt.start gw gh A l.length c ax ay bx by' W)
  have HR := Lib.hid hr; clear hr
  by_cases hf : (l.length : Int) ≤ 1024
  · have hc3 : ∀ V : World, GAt gw gh A l.length c ax ay bx by' W V → Calls Try.prog 15 #[gv gw gh A l.length c, pv ax ay, pv bx by', .int .i64 n] V fun e w' => e = .returned (pv (tow gw gh l ax ay bx by' n).1 (tow gw gh l ax ay bx by' n).2) ∧ Below V.heap.size V w' :=
      fun V h => toward_any gw gh A l c ax ay bx by' n V W.heap.size (HR.out.below h.below (Nat.le_refl _)) h.below.size h5
    have hc4 : ∀ V : World, GAt gw gh A l.length c ax ay bx by' W V → Calls Try.prog 16 #[gv gw gh A l.length c, pv ax ay, pv bx by', .int .i64 n] V fun e w' => e = .returned (pv (tow gw gh l ax ay bx by' n).1 (tow gw gh l ax ay bx by' n).2) ∧ Below V.heap.size V w' :=
      fun V h => rtoward_any gw gh A l c ax ay bx by' n V W.heap.size (HR.out.below h.below (Nat.le_refl _)) h.below.size h5
    generalize (tow gw gh l ax ay bx by' n).1 = px at hc3 hc4
    generalize (tow gw gh l ax ay bx by' n).2 = py at hc3 hc4
    have C3 := Lib.hid hc3; have C4 := Lib.hid hc4
    clear hc3 hc4
    go_enter Try.func4, Try.ntmps4
    go_wp2_with (first
      | ((with_reducible refine (small_any _).mono ?_); rintro e w1 ⟨rfl, hB1⟩; have HG1 := Lib.hid (HG0.out.of hB1); obtain ⟨k0, k1, k2, k3, k4, k5, k6⟩ := HG1.out.cells; clear hB1)
      | ((with_reducible refine (few_any gw gh A l.length c _).mono ?_); rintro e w2 ⟨rfl, hB2⟩; have HG2 := Lib.hid (HG1.out.of hB2); clear hB2 k0 k1 k2 k3 k4 k5 k6))
    have K2 := HG2.out.cells
    go_region_held3 (fun V => V.cell? ⟨W.heap.size, 0, none⟩ = some (.int .i64 gw) ∧ V.cell? ⟨W.heap.size, 1, none⟩ = some (.int .i64 gh) ∧ V.cell? ⟨W.heap.size, 2, none⟩ = some (.slice A l.length c) ∧ V.cell? ⟨W.heap.size + 1, 0, none⟩ = some (.int .i64 ax) ∧ V.cell? ⟨W.heap.size + 1, 1, none⟩ = some (.int .i64 ay) ∧ V.cell? ⟨W.heap.size + 1 + 1, 0, none⟩ = some (.int .i64 bx) ∧ V.cell? ⟨W.heap.size + 1 + 1, 1, none⟩ = some (.int .i64 by'))
      (first | exact K2 | exact K3 | exact K4 | go_keep)
      ((first
      | ((with_reducible refine (C3.out _ HG2.out.drew).mono ?_); rintro e w3 ⟨rfl, hB3⟩; have HG3 := Lib.hid (HG2.out.drew.of hB3); have K3 := HG3.out.cells)
      | ((with_reducible refine (C4.out _ HG3.out).mono ?_); rintro e w4 ⟨rfl, hB4⟩; have HG4 := Lib.hid (HG3.out.of hB4); have K4 := HG4.out.cells)))
    go_wp2
    go_ret
    exact ⟨rfl, HG4.out.below⟩
  · have hf' : decide ((l.length : Int) ≤ 1024) = false := by simpa using hf
    go_enter Try.func4, Try.ntmps4
    go_wp2_with (first
      | ((with_reducible refine (small_any _).mono ?_); rintro e w1 ⟨rfl, hB1⟩; have HG1 := Lib.hid (HG0.out.of hB1); obtain ⟨k0, k1, k2, k3, k4, k5, k6⟩ := HG1.out.cells; clear hB1)
      | ((with_reducible refine (few_any gw gh A l.length c _).mono ?_); rintro e w2 ⟨rfl, hB2⟩; have HG2 := Lib.hid (HG1.out.of hB2); clear hB2 k0 k1 k2 k3 k4 k5 k6))
    go_quiet (fail)
    go_wp2
    go_ret
    exact ⟨rfl, below_drewN HG2.out.below _⟩


set_option maxRecDepth 100000 in
theorem lifted (os : Os) (started : os.Started) (H : Type) (enc : TypeId × Value → H) :
    ReturnsInHanded {} Try.checked os 4 .any (Rows.gridWalksSpec.pre6 enc Try.prog Try.f4 Rows.gridWalksRow.domain false) (Rows.gridWalksSpec.post enc Try.prog Try.f4 false true false false) := by
  refine returnsInHanded_of_change (C := Try.checked) own started (by kernel_rfl) Try.func4
    (ChangeSpec.witness6 (enc := enc) (C := Try.checked) false ⟨#[], #[.agg #[.int .i64 0, .int .i64 0, .slice none 0 0], .agg #[.int .i64 0, .int .i64 0], .agg #[.int .i64 0, .int .i64 0], .int .i64 0], []⟩ 8 (by kernel_rfl) (by kernel_rfl) (by kernel_rfl) (by kernel_rfl)) ?_
  intro W base args ds gs before hval0 hW hcnd _
  have hval : ∀ (j : Nat) t v, Try.f4.params[j]? = some t → args[j]? = some v → Value.okWide Try.prog W .any base t v := hval0
  have hW' := hW
  obtain ⟨p, q, hA0, hV, rfl, hfz, hnd⟩ := hW
  have hA : DataW.TrodAll enc Try.prog W 0 (fun _ => true) true Try.f4.params.toList args.toList ds p := hA0
  rw [Try.params4] at hA hval
  obtain ⟨v0, vs0, d0, ds0, p0, q0, hargs, rfl, rfl, h0, r0⟩ := trodAll_cons hA
  obtain ⟨v1, vs1, d1, ds1, p1, q1, rfl, rfl, rfl, h1, r1⟩ := trodAll_cons r0
  obtain ⟨v2, vs2, d2, ds2, p2, q2, rfl, rfl, rfl, h2, r2⟩ := trodAll_cons r1
  obtain ⟨v3, vs3, d3, ds3, p3, q3, rfl, rfl, rfl, h3, r3⟩ := trodAll_cons r2
  obtain ⟨rfl, rfl, rfl⟩ := trodAll_nil r3
  obtain rfl : args = #[v0, v1, v2, v3] := by cases args; simp_all
  obtain ⟨rfl, rfl⟩ := trodVars_none hV
  clear hA0 hval0
  have hlt0 : ∀ x ∈ p0, x.block < W.heap.size := fun x hx => hW'.lt x (by simp [hx])
  have hk0 := h0
  obtain ⟨gw0, gh0, A0, c0, l0, rfl, fw0, fh0, hr0⟩ := Open.viewG (hval 0 29 v0 rfl rfl) h0 hlt0
  have hlt1 : ∀ x ∈ p1, x.block < W.heap.size := fun x hx => hW'.lt x (by simp [hx])
  have hk1 := h1
  obtain ⟨x1, y1, rfl, fx1, fy1⟩ := Open.viewP (hval 1 23 v1 rfl rfl) h1
  have hlt2 : ∀ x ∈ p2, x.block < W.heap.size := fun x hx => hW'.lt x (by simp [hx])
  have hk2 := h2
  obtain ⟨x2, y2, rfl, fx2, fy2⟩ := Open.viewP (hval 2 23 v2 rfl rfl) h2
  obtain ⟨a3, rfl, rfl, rfl, w3⟩ := open_int Try.underlying3 (hval 3 3 v3 rfl rfl) h3
  simp only [List.append_nil] at hW'
  refine (walk W gw0 gh0 A0 c0 l0 fw0 fh0 hr0 x1 y1 fx1 fy1 x2 y2 fx2 fy2 a3 (Open.fits_of w3)).mono fun e W' ⟨he, hg⟩ => ?_
  subst he
  exact ⟨_, rfl, _, _, _, [], _, [], hW', (trodAll_cons_mk (shut_bool Try.underlying4 _) trodAll_mk0), (trodAll_cons_mk (Below.trod Open.laidOut (by kernel_rfl) (of_decide_eq_true (by kernel_rfl)) hk0 hg hlt0) (trodAll_cons_mk (Below.trod Open.laidOut (by kernel_rfl) (of_decide_eq_true (by kernel_rfl)) hk1 hg hlt1) (trodAll_cons_mk (Below.trod Open.laidOut (by kernel_rfl) (of_decide_eq_true (by kernel_rfl)) hk2 hg hlt2) (trodAll_cons_mk (shut_int Try.underlying3 w3) trodAll_mk0)))), rfl, hg.frame _, fun h => by cases h⟩

theorem over : Rows.gridWalksRow.holds Try.pinned (OpenSpec.ofChange Rows.gridWalksSpec) :=
  OpenClaim.holds_of_wide 4 Try.f4 rfl rfl rfl rfl rfl rfl rfl ⟨rfl, rfl, rfl, rfl, rfl⟩ rfl rfl rfl rfl rfl (by kernel_rfl) Try.func4 (by kernel_rfl)
    (of_decide_eq_true (by kernel_rfl)) (by unfold Func.isWrapper; first | (rw [if_pos (by decide +kernel)]; kernel_rfl) | (rw [if_neg (by decide +kernel)]; exact ⟨rfl, rfl⟩))
    (fun os started H enc _ => lifted os started H enc)

/-- The given statement. -/
theorem proved : Rows.GridWalksSaid :=
  over
#print axioms proved
end Go.Proofs.Ytccfoeokadggaaa.gridWalks
