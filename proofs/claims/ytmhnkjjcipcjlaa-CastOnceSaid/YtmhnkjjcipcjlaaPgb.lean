/-
  Contracts of the program's begun, Stop and Step: for every Casting; only new memory is made.
-/
import Derived.Test.YtmhnkjjcipcjlaaPga
import Derived.Test.YtmhnkjjcipcjlaaBmx
import Derived.StillTailTactics
import Derived.Deep.RegionWith
namespace Go.Proofs.Ytmhnkjjcipcjlaa.Con
open Go.RowKit Go.Maps
set_option linter.unusedVariables false

/-- An ability of an Id and a Cast. -/
abbrev abv (id c : Int) : Value := .agg #[.int .i64 id, .int .i64 c, .int .i64 0, .int .i64 0, .int .i64 0, .int .i64 0, .bool false, .slice none 0 0]
abbrev oAb (id c : Int) : Obj := .cells #[.int .i64 id, .int .i64 c, .int .i64 0, .int .i64 0, .int .i64 0, .int .i64 0, .bool false, .slice none 0 0] 32
theorem Cx.put {w : World} {b : Nat} {s : Ca} (h : Cx w b s) (c : Ca) : Cx (wrN w b c) b c :=
  heap_setCell_same _ b 3 _ 25 _ (heap_setCell_same _ b 2 _ 25 _ (heap_setCell_same _ b 1 _ 25 _ (heap_setCell_same w b 0 _ 25 _ h)))
theorem OW.setO {α : Type} {E : El α} {w : World} {base r : Nat} {v : Value} {l : List α} (h : OW E w base v l) (hr : r < base) (o : Nat) (u : Value) : OW E (w.setCell ⟨r, o, none⟩ u) base v l :=
  h.keep (fun k hk => heap_setCell_other w ⟨r, o, none⟩ k u (by have := (h.lt hk).1; show k ≠ r; omega))
theorem OW.putN {α : Type} {E : El α} {w : World} {base r : Nat} {v : Value} {l : List α} (h : OW E w base v l) (hr : r < base) (c : Ca) : OW E (wrN w r c) base v l := (((h.setO hr 0 _).setO hr 1 _).setO hr 2 _).setO hr 3 _
theorem OW.putX {α : Type} {E : El α} {w : World} {base r : Nat} {v : Value} {l : List α} (h : OW E w base v l) (hr : r < base) (c : Ca) : OW E (wrX w r c) base v l := (((h.setO hr 4 _).setO hr 5 _).setO hr 6 _).setO hr 7 _
theorem OW.putG {α : Type} {E : El α} {w : World} {base r : Nat} {v : Value} {l : List α} (h : OW E w base v l) (hr : r < base) (c : Cg) : OW E (wrG w r c) base v l := ((((((((h.setO hr 0 _).setO hr 1 _).setO hr 2 _).setO hr 3 _).setO hr 4 _).setO hr 5 _).setO hr 6 _).setO hr 7 _).setO hr 8 _
set_option maxRecDepth 20000 in
set_option maxHeartbeats 2000000 in
theorem pbegun_any (id c tgt t : Int) (ft : Fits t) (fc : Fits c) (w : World) : Calls Try.prog 15 #[abv id c, .int .i64 tgt, .int .i64 t] w fun e w' => e = .returned (cav ⟨id, tgt, t, held (t + c)⟩) ∧ Below w.heap.size w w' := by
  have HB0 : Hid (Below w.heap.size w ((w.alloc (oAb id c)).alloc (oCa zCa))) := Lib.hid ((below_box w (oAb id c)).alloc (by simp) _)
  have HA0 : Hid (((w.alloc (oAb id c)).alloc (oCa zCa)).heap[w.heap.size]? = some (oAb id c)) := Lib.hid ((Below.heap_alloc _ _ _ (by simp)).trans (heap_alloc_new w _))
  have HY0 : Hid (Cx ((w.alloc (oAb id c)).alloc (oCa zCa)) (w.heap.size + 1) zCa) := Lib.hid (by have := Cx.new (w.alloc (oAb id c)) zCa; simpa using this)
  have HA := Lib.hid (fun V => add_any t c V ft fc)
  clear ft fc
  obtain ⟨g, HGd⟩ : ∃ g, Hid (held (t + c) = g) := ⟨_, Lib.hid rfl⟩
  rw [HGd.out] at HA ⊢
  have a0 := cellOf' HA0.out
  go_enter Try.func15, Try.ntmps15
  go_wp2_with (fail)
  generalize (w.alloc (oAb id c)).alloc (oCa zCa) = w0 at *
  go_still_tail 9, (by kernel_rfl)
  still_call ((HA.out _).mono fun _ _ h => ⟨h.1, h.2.symm⟩)
  repeat still_step
  refine wpStill_nil ?_
  change wpList _ _ _ _ _ w0.drew
  clear a0
  have HY1 : Hid (Cx w0.drew (w.heap.size + 1) zCa) := Lib.hid HY0.out
  have HB1 : Hid (Below w.heap.size w w0.drew) := Lib.hid (below_drewN HB0.out 1)
  generalize w0.drew = w1 at HY1 HB1 ⊢
  have hG := frozOf' HY1.out
  have hyz := cellOf' HY1.out
  have hyl := HY1.out.lt
  have HR : Hid (Cx (wrN w1 (w.heap.size + 1) ⟨id, tgt, t, g⟩) (w.heap.size + 1) ⟨id, tgt, t, g⟩) := Lib.hid (HY1.out.put _)
  have HS : Hid (Below w.heap.size w (wrN w1 (w.heap.size + 1) ⟨id, tgt, t, g⟩)) := Lib.hid (below_putN HB1.out (by omega) _)
  go_wp2
  obtain ⟨q0, q1, q2, q3⟩ := HR.out.at
  refine bodyPost_ret (by simp [results, Try.results15, go_sem, q0, q1, q2, q3]; try rfl) rfl ?_
  exact ⟨rfl, HS.out⟩
theorem idx_now (s : Cg) (w : World) : (Instr.index 49 (.agg #[.int .i64 s.now.ability, .int .i64 s.now.target, .int .i64 s.now.since, .int .i64 s.now.untl, .int .i64 s.next.ability, .int .i64 s.next.target, .int .i64 s.next.since, .int .i64 s.next.untl]) (.int .i64 0)).run Try.prog w = .ok (cav s.now) w := by
  simp [Instr.index, run_underlying Try.underlying49, asIntOf, go_sem]
theorem idx_next (s : Cg) (w : World) : (Instr.index 49 (.agg #[.int .i64 s.now.ability, .int .i64 s.now.target, .int .i64 s.now.since, .int .i64 s.now.untl, .int .i64 s.next.ability, .int .i64 s.next.target, .int .i64 s.next.since, .int .i64 s.next.untl]) (.int .i64 1)).run Try.prog w = .ok (cav s.next) w := by
  simp [Instr.index, run_underlying Try.underlying49, asIntOf, go_sem]
/-- Without both casts; how many were there. -/
def spN (s : Cg) : Int := (if s.now.ability = 0 then 0 else 1) + (if s.next.ability = 0 then 0 else 1)
set_option maxRecDepth 20000 in
set_option maxHeartbeats 4000000 in
theorem pstop_any (s : Cg) (w : World) : Calls Try.prog 9 #[cgv s] w fun e w' => e = .returned (.tuple #[cgv ⟨zCa, zCa, s.wait⟩, .int .i64 (spN s)]) ∧ Below w.heap.size w w' := by
  have HB0 : Hid (Below w.heap.size w ((w.alloc (oCg s)).alloc (oCg ⟨zCa, zCa, 0⟩))) := Lib.hid ((below_box w (oCg s)).alloc (by simp) _)
  have HX0 : Hid (Gx ((w.alloc (oCg s)).alloc (oCg ⟨zCa, zCa, 0⟩)) w.heap.size s) := Lib.hid ((Gx.new w s).alloc _)
  have HY0 : Hid (Gx ((w.alloc (oCg s)).alloc (oCg ⟨zCa, zCa, 0⟩)) (w.heap.size + 1) ⟨zCa, zCa, 0⟩) := Lib.hid (by have := Gx.new (w.alloc (oCg s)) ⟨zCa, zCa, 0⟩; simpa using this)
  have HT := Lib.hid (fun (c : Ca) V => pthere_any c V)
  obtain ⟨n1, HN1⟩ : ∃ n1 : Int, Hid (n1 = if s.now.ability = 0 then 0 else 1) := ⟨_, Lib.hid rfl⟩
  have HD : Hid (spN s = n1 + (if s.next.ability = 0 then 0 else 1)) := Lib.hid (by rw [HN1.out]; rfl)
  generalize spN s = sn at HD ⊢
  have hn1 : 0 ≤ n1 ∧ n1 ≤ 1 := by rw [HN1.out]; split <;> omega
  have hn1a := hn1.1; have hn1b := hn1.2
  clear hn1
  obtain ⟨z0, z1, z2, z3, z4, z5, z6, z7, z8⟩ := HX0.out.at
  go_enter Try.func9, Try.ntmps9
  go_wp2
  generalize (w.alloc (oCg s)).alloc (oCg ⟨zCa, zCa, 0⟩) = w0 at *
  clear z0 z1 z2 z3 z4 z5 z6 z7 z8
  go_loopg [4, 12] 2 (fun gh s4 s12 wr => (gh = 2 ∧ s12 = .int .i64 0 ∧ s4 = .int .i64 0 ∨ gh = 1 ∧ s12 = .int .i64 1 ∧ s4 = .int .i64 n1 ∨ gh = 0 ∧ s12 = .int .i64 2 ∧ s4 = .int .i64 sn) ∧ Hid (Gx wr w.heap.size s) ∧ Hid (Gx wr (w.heap.size + 1) ⟨zCa, zCa, 0⟩) ∧ Hid (Below w.heap.size w wr))
  case atStart => exact ⟨.inl ⟨rfl, rfl, rfl⟩, HX0, HY0, HB0⟩
  case round =>
    obtain ⟨hk, HX, HY, HB⟩ := hrel
    rcases hk with ⟨rfl, rfl, rfl⟩ | ⟨rfl, rfl, rfl⟩ | ⟨rfl, rfl, rfl⟩
    · have HX1 : Hid (Gx (wr.alloc (oCa s.now)) w.heap.size s) := Lib.hid (HX.out.alloc _)
      have HY1 : Hid (Gx (wr.alloc (oCa s.now)) (w.heap.size + 1) ⟨zCa, zCa, 0⟩) := Lib.hid (HY.out.alloc _)
      have HB1 : Hid (Below w.heap.size w (wr.alloc (oCa s.now))) := Lib.hid (HB.out.alloc HB.out.size _)
      obtain ⟨z0, z1, z2, z3⟩ := (Cx.new wr s.now).at
      have EI := idx_now s wr
      go_wp2_with (fail)
      clear EI
      generalize wr.alloc (oCa s.now) = w1 at *
      (with_reducible refine (HT.out s.now _).mono ?_); rintro e w2 ⟨rfl, hB2⟩
      have HX2 := Lib.hid (HX1.out.of hB2 HX1.out.lt)
      have HY2 := Lib.hid (HY1.out.of hB2 HY1.out.lt)
      have HB2 := Lib.hid (below_more HB1.out hB2 HB1.out.size)
      clear hB2 z0 z1 z2 z3
      cases h0 : decide (s.now.ability = 0) with
      | true =>
        have hx : n1 = 0 := by rw [HN1.out, if_pos (by simpa using h0)]
        go_wp2
        go_roundg 1
        case measure => omega
        case rel => exact ⟨.inr (.inl ⟨rfl, by go_num, by rw [hx]⟩), HX2, HY2, HB2⟩
      | false =>
        have hx : n1 = 1 := by rw [HN1.out, if_neg (by simpa using h0)]
        go_wp2
        go_roundg 1
        case measure => omega
        case rel => exact ⟨.inr (.inl ⟨rfl, by go_num, by rw [hx]; try go_num⟩), HX2, HY2, HB2⟩
    · have HX1 : Hid (Gx (wr.alloc (oCa s.next)) w.heap.size s) := Lib.hid (HX.out.alloc _)
      have HY1 : Hid (Gx (wr.alloc (oCa s.next)) (w.heap.size + 1) ⟨zCa, zCa, 0⟩) := Lib.hid (HY.out.alloc _)
      have HB1 : Hid (Below w.heap.size w (wr.alloc (oCa s.next))) := Lib.hid (HB.out.alloc HB.out.size _)
      obtain ⟨z0, z1, z2, z3⟩ := (Cx.new wr s.next).at
      have EI := idx_next s wr
      go_wp2_with (fail)
      clear EI
      generalize wr.alloc (oCa s.next) = w1 at *
      (with_reducible refine (HT.out s.next _).mono ?_); rintro e w2 ⟨rfl, hB2⟩
      have HX2 := Lib.hid (HX1.out.of hB2 HX1.out.lt)
      have HY2 := Lib.hid (HY1.out.of hB2 HY1.out.lt)
      have HB2 := Lib.hid (below_more HB1.out hB2 HB1.out.size)
      clear hB2 z0 z1 z2 z3
      cases h0 : decide (s.next.ability = 0) with
      | true =>
        have hx := Lib.hid (show sn = n1 by rw [HD.out, if_pos (by simpa using h0)]; omega)
        go_wp2
        go_roundg 0
        case measure => omega
        case rel => exact ⟨.inr (.inr ⟨rfl, by go_num, by rw [hx.out]⟩), HX2, HY2, HB2⟩
      | false =>
        have hx := Lib.hid (show sn = n1 + 1 by rw [HD.out, if_neg (by simpa using h0)])
        go_wp2
        go_roundg 0
        case measure => omega
        case rel => exact ⟨.inr (.inr ⟨rfl, by go_num, by rw [hx.out]; try go_num⟩), HX2, HY2, HB2⟩
    · obtain ⟨z0, z1, z2, z3, z4, z5, z6, z7, z8⟩ := HX.out.at
      have hG := frozOf' HY.out
      have hyz := cellOf' HY.out
      have hyl := HY.out.lt
      have HR : Hid (Gx (wrG wr (w.heap.size + 1) ⟨zCa, zCa, s.wait⟩) (w.heap.size + 1) ⟨zCa, zCa, s.wait⟩) := Lib.hid (HY.out.putG _)
      have HS : Hid (Below w.heap.size w (wrG wr (w.heap.size + 1) ⟨zCa, zCa, s.wait⟩)) := Lib.hid (below_putG HB.out (by omega) _)
      go_wp2
      obtain ⟨q0, q1, q2, q3, q4, q5, q6, q7, q8⟩ := HR.out.at
      refine bodyPost_ret (by simp [results, Try.results9, go_sem, q0, q1, q2, q3, q4, q5, q6, q7, q8]; try rfl) rfl ?_
      exact ⟨rfl, HS.out⟩
end Go.Proofs.Ytmhnkjjcipcjlaa.Con
