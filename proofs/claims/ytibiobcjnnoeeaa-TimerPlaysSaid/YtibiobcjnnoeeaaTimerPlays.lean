/-
  TimerPlays holds for every row of steps: a queue is the document's, step by step.
-/
import Derived.Test.YtibiobcjnnoeeaaStp
import Derived.Test.YtibiobcjnnoeeaaOpr
import Derived.WalkKit
import Derived.ProofKit
import Derived.OpenShut
namespace Go.Proofs.Ytibiobcjnnoeeaa.timerPlays
open Go.ChangeShapes Go.WideShapes Go.ChangeAt Go.RowKit Con Tmr
set_option linter.unusedVariables false

theorem own : ownKnob Try.prog.godebug = none := by kernel_rfl

theorem xy_start {W w : World} {q mb : Nat} (h : PQ W w q mb [] 0) : XY W (w.alloc (.cells #[.slice none 0 0, .int .i64 0] 29)) q mb w.heap.size [] 0 [] 0 [] := by
  obtain ⟨⟨A, c, l, hT⟩, h0⟩ := h
  have hb : Below w.heap.size w (w.alloc (.cells #[.slice none 0 0, .int .i64 0] 29)) := (Below.refl _ _).alloc (Nat.le_refl _) _
  refine ⟨A, c, l, none, 0, hT.step hb, ⟨heap_alloc_new w _, ROw.of_own (Own.nil _ _), h0.size, (fun k hk => by cases hk), Tmr.Good.nil, by simp, by omega, by omega⟩, fun k hk hm => ?_, h0.trans (hb.mono h0.size), fun p hp => by cases hp⟩
  simp [rbl, blk] at hm
  subst hm
  have := (hT.qs.que.lo _ hk).2
  omega
theorem steps_at {W : World} {A : Option Addr} {L : List Open.Stp} (h : Open.RS W W.heap.size A L) {i : Nat} (hi : i < L.length) : ∃ b off s, A = some ⟨b, off, none⟩ ∧ b < W.heap.size ∧ L[i]? = some s ∧ ∀ w, Below W.heap.size W w → w.cell? ⟨b, off + i * 3, none⟩ = some (.int .i64 s.k) ∧ w.cell? ⟨b, off + i * 3 + 1, none⟩ = some (.int .i64 s.a) ∧ w.cell? ⟨b, off + i * 3 + 2, none⟩ = some (.int .i64 s.b) := by
  rcases h with rfl | ⟨b, off, hA, hlt, hc⟩
  · simp at hi
  · obtain ⟨h1, h2, h3⟩ := hc i L[i] (by simp [hi])
    refine ⟨b, off, L[i], hA, hlt, by simp [hi], fun w hb => ?_⟩
    have e := hb.block b hlt
    exact ⟨(World.cell?_of_block (w := W) e).trans h1, (World.cell?_of_block (w := W) e).trans h2, (World.cell?_of_block (w := W) e).trans h3⟩
theorem xy_xlen_q {W w : World} {q mb gb : Nat} {Sx Sy : List Tm} {lx ly : Int} {K : List (Nat × Obj)} (h : XY W w q mb gb Sx lx Sy ly K) (i : Nat) : Calls Try.prog 11 #[.pointer (some ⟨q, 0, none⟩)] (w.drewN i) fun e w' => e = .returned (.int .i64 Sx.length) ∧ w' = w.drewN i :=
  (xy_xlen (h.step (below_drewN w i)) Sx.length rfl).mono fun _ _ ⟨he, hw⟩ => ⟨he, hw.symm⟩
theorem tob_cells {W w : World} {q mb gb : Nat} {Sx Sy : List Tm} {lx ly : Int} {K : List (Nat × Obj)} (h : XY W w q mb gb Sx lx Sy ly K) {N : Nat} {d t i : Int} (hN : (N, Obj.cells #[.int .i64 d, .int .i64 t, .int .i64 i] 33 (0, 0)) ∈ K) : w.cell? ⟨N, 0, none⟩ = some (.int .i64 d) ∧ w.cell? ⟨N, 1, none⟩ = some (.int .i64 t) ∧ w.cell? ⟨N, 2, none⟩ = some (.int .i64 i) := by
  have e := h.obj hN
  exact ⟨(cell_of_row w N 0 _ 33 (0, 0) e).trans rfl, (cell_of_row w N 1 _ 33 (0, 0) e).trans rfl, (cell_of_row w N 2 _ 33 (0, 0) e).trans rfl⟩
set_option maxHeartbeats 16000000 in
set_option maxRecDepth 20000 in
theorem walk (W : World) (A0 : Option Addr) (c0 : Nat) (l0 : List Open.Stp) (hr0 : Open.RS W W.heap.size A0 l0) (hc0 : l0.length ≤ c0) (hl0 : l0.length ≤ 9223372036854775807) (hx0 : ∀ s ∈ l0, -9223372036854775808 ≤ s.a ∧ s.a ≤ 9223372036854775807) :
    Calls Try.prog 3 #[.slice A0 l0.length c0] W fun e W' => e = .returned (.bool true) ∧ Below W.heap.size W W' := by
  have HR0 := Lib.hid hr0; have HX0 := Lib.hid hx0
  clear hr0 hc0 hl0 hx0
  by_cases hg0 : (l0.length : Int) > 200
  · go_enter Try.func3, Try.ntmps3
    go_wp2_with (first
      | ((with_reducible refine (small_any W).mono ?_); rintro e w1 ⟨rfl, hb1⟩; have HB1 := Lib.hid hb1; clear hb1)
      | ((with_reducible refine (pq_new HB1.out).mono ?_); rintro e w2 ⟨rfl, HP2⟩))
    go_ret
    exact ⟨rfl, HP2.out.below⟩
  · have hd0 : decide ((l0.length : Int) > 200) = false := by simpa using hg0
    have hL0 : (l0.length : Int) ≤ 3000 := by omega
    have HLb : Hid ((l0.length : Int) ≤ 200) := Lib.hid (by omega)
    clear hg0
    go_enter Try.func3, Try.ntmps3
    go_wp2_with (first
      | ((with_reducible refine (small_any W).mono ?_); rintro e w1 ⟨rfl, hb1⟩; have HB1 := Lib.hid hb1; clear hb1)
      | ((with_reducible refine (pq_new HB1.out).mono ?_); rintro e w2 ⟨rfl, HP2⟩; have HXS := Lib.hid (xy_start HP2.out)))
    clear hd0
    generalize w1.heap.size + 1 = q at HP2 HXS ⊢
    generalize w1.heap.size = mb at HP2 HXS ⊢
    generalize w2.alloc (.cells #[.slice none 0 0, .int .i64 0] 29) = w3 at HXS ⊢
    generalize w2.heap.size = gb at HXS ⊢
    go_loopg [6] l0.length (fun m s6 wr => ∃ (i : Nat) (S : List Tm) (l : Int), i ≤ l0.length ∧ m = l0.length - i ∧ s6 = .int .i64 (i : Int) ∧ Hid (XY W wr q mb gb S l S l []) ∧ Hid ((S.length : Int) ≤ i) ∧ Hid (0 ≤ l ∧ l ≤ i))
    case atStart => exact ⟨0, [], 0, by omega, rfl, rfl, HXS, Lib.hid (by simp), Lib.hid (by omega)⟩
    case round =>
      obtain ⟨i, S, l, hi, rfl, rfl, HX, HS, HL⟩ := hrel
      by_cases hil : i < l0.length
      · have hil' : (i : Int) < l0.length := by omega
        have hip : (0 : Int) ≤ (i : Int) := by omega
        obtain ⟨b, off, s, hA, hbl, hls, hcell⟩ := steps_at HR0.out hil
        obtain ⟨e0, e1, e2⟩ := hcell wr HX.out.below
        have HW := Lib.hid (HX0.out s (List.mem_of_getElem? hls))
        have HSb : Hid ((S.length : Int) < 900) := Lib.hid (by have := HS.out; have := HLb.out; omega)
        have HLh : Hid (l ≤ 90000) := Lib.hid (by have := HL.out; have := HLb.out; omega)
        subst hA
        clear hcell hls
        go_wp2_with ((with_reducible refine (play_any HX.out s.k s.a s.b HW.out HSb.out HL.out.1 HLh.out).mono ?_); rintro e w4 ⟨rfl, S2, l2, HX2, HS2, HL2⟩)
        clear e0 e1 e2
        rcases hf : first S2 with _ | t
        · have HF := Lib.hid hf
          clear hf
          go_wp2_with (first
            | ((with_reducible refine (xy_xnone HX2.out HF.out).mono ?_); rintro e w5 ⟨rfl, HX5, _⟩; have HX6 := Lib.hid (HX5.out.new #[.int .i64 0, .int .i64 0, .int .i64 0] 33))
            | ((with_reducible refine (xy_ynone HX6.out HF.out).mono ?_); rintro e w7 ⟨rfl, HX7, _⟩; have HX8 := Lib.hid (HX7.out.new #[.int .i64 0, .int .i64 0, .int .i64 0] 33)))
          obtain ⟨x0, x1, x2⟩ := tob_cells HX8.out (N := w5.heap.size) (d := 0) (t := 0) (i := 0) (by simp)
          obtain ⟨y0, y1, y2⟩ := tob_cells HX8.out (N := w7.heap.size) (d := 0) (t := 0) (i := 0) (by simp)
          generalize w7.alloc (.cells #[.int .i64 0, .int .i64 0, .int .i64 0] 33) = w9 at HX8 x0 x1 x2 y0 y1 y2 ⊢
          obtain ⟨A1, c1, z0⟩ := HX8.out.ycell
          go_quiet ((go_at_call 11; exact Calls.quiet_of_same (xy_xlen_q HX8.out _)))
          go_wp2
          go_roundg (l0.length - (i + 1))
          · exact ⟨i + 1, S2, l2, by omega, rfl, by simp, Lib.hid (HX8.out.step (below_drewN _ _)).less, Lib.hid (by have := HS.out; have := HS2.out; omega), Lib.hid (by have := HL.out; have := HL2.out; omega)⟩
          · omega
        · have HF := Lib.hid hf
          clear hf
          go_wp2_with (first
            | ((with_reducible refine (xy_xsome HX2.out t HF.out).mono ?_); rintro e w5 ⟨rfl, HX5, _⟩; have HX6 := Lib.hid (HX5.out.new #[.int .i64 t.due, .int .i64 t.tag, .int .i64 t.id] 33))
            | ((with_reducible refine (xy_ysome HX6.out t HF.out).mono ?_); rintro e w7 ⟨rfl, HX7, _⟩; have HX8 := Lib.hid (HX7.out.new #[.int .i64 t.due, .int .i64 t.tag, .int .i64 t.id] 33)))
          obtain ⟨x0, x1, x2⟩ := tob_cells HX8.out (N := w5.heap.size) (d := t.due) (t := t.tag) (i := t.id) (by simp)
          obtain ⟨y0, y1, y2⟩ := tob_cells HX8.out (N := w7.heap.size) (d := t.due) (t := t.tag) (i := t.id) (by simp)
          generalize w7.alloc (.cells #[.int .i64 t.due, .int .i64 t.tag, .int .i64 t.id] 33) = w9 at HX8 x0 x1 x2 y0 y1 y2 ⊢
          obtain ⟨A1, c1, z0⟩ := HX8.out.ycell
          go_quiet ((go_at_call 11; exact Calls.quiet_of_same (xy_xlen_q HX8.out _)))
          go_wp2
          go_roundg (l0.length - (i + 1))
          · exact ⟨i + 1, S2, l2, by omega, rfl, by simp, Lib.hid (HX8.out.step (below_drewN _ _)).less, Lib.hid (by have := HS.out; have := HS2.out; omega), Lib.hid (by have := HL.out; have := HL2.out; omega)⟩
          · omega
      · have hll : decide ((i : Int) < l0.length) = false := by simp; omega
        go_wp2
        go_ret
        exact ⟨rfl, HX.out.below⟩


set_option maxRecDepth 100000 in
theorem lifted (os : Os) (started : os.Started) (H : Type) (enc : TypeId × Value → H) :
    ReturnsInHanded {} Try.checked os 3 .any (Rows.timerPlaysSpec.pre6 enc Try.prog Try.f3 Rows.timerPlaysRow.domain false) (Rows.timerPlaysSpec.post enc Try.prog Try.f3 false true false false) := by
  refine returnsInHanded_of_change (C := Try.checked) own started (by kernel_rfl) Try.func3
    (ChangeSpec.witness6 (enc := enc) (C := Try.checked) false ⟨#[], #[.slice none 0 0], []⟩ 8 (by kernel_rfl) (by kernel_rfl) (by kernel_rfl) (by kernel_rfl)) ?_
  intro W base args ds gs before hval0 hW hcnd _
  have hval : ∀ (j : Nat) t v, Try.f3.params[j]? = some t → args[j]? = some v → Value.okWide Try.prog W .any base t v := hval0
  have hW' := hW
  obtain ⟨p, q, hA0, hV, rfl, hfz, hnd⟩ := hW
  have hA : DataW.TrodAll enc Try.prog W 0 (fun _ => true) true Try.f3.params.toList args.toList ds p := hA0
  rw [Try.params3] at hA hval
  obtain ⟨v0, vs0, d0, ds0, p0, q0, hargs, rfl, rfl, h0, r0⟩ := trodAll_cons hA
  obtain ⟨rfl, rfl, rfl⟩ := trodAll_nil r0
  obtain rfl : args = #[v0] := by cases args; simp_all
  obtain ⟨rfl, rfl⟩ := trodVars_none hV
  clear hA0 hval0
  have hlt0 : ∀ x ∈ p0, x.block < W.heap.size := fun x hx => hW'.lt x (by simp [hx])
  have hk0 := h0
  obtain ⟨A0, c0, l0, rfl, hr0, hc0, hl0, hx0⟩ := Open.view3 (hval 0 22 v0 rfl rfl) h0 hlt0
  simp only [List.append_nil] at hW'
  refine (walk W A0 c0 l0 hr0 hc0 hl0 hx0).mono fun e W' ⟨he, hg⟩ => ?_
  subst he
  exact ⟨_, rfl, _, _, _, [], _, [], hW', (trodAll_cons_mk (shut_bool Try.underlying4 _) trodAll_mk0), (trodAll_cons_mk (Below.trod Open.laidOut (by kernel_rfl) (of_decide_eq_true (by kernel_rfl)) hk0 hg hlt0) trodAll_mk0), rfl, hg.frame _, fun h => by cases h⟩

theorem over : Rows.timerPlaysRow.holds Try.pinned (OpenSpec.ofChange Rows.timerPlaysSpec) :=
  OpenClaim.holds_of_wide 3 Try.f3 rfl rfl rfl rfl rfl rfl rfl ⟨rfl, rfl, rfl, rfl, rfl⟩ rfl rfl rfl rfl rfl (by kernel_rfl) Try.func3 (by kernel_rfl)
    (of_decide_eq_true (by kernel_rfl)) (by unfold Func.isWrapper; first | (rw [if_pos (by decide +kernel)]; kernel_rfl) | (rw [if_neg (by decide +kernel)]; exact ⟨rfl, rfl⟩))
    (fun os started H enc _ => lifted os started H enc)

/-- The given statement. -/
theorem proved : Rows.TimerPlaysSaid :=
  over
#print axioms proved
end Go.Proofs.Ytibiobcjnnoeeaa.timerPlays
