/-
  The law ContentFinds: what is found, copied, and alike, for every content.
-/
import Derived.Test.YtekpbdjnfobobaaOpen
import Derived.Test.YtekpbdjnfobobaaSta
import Derived.Test.YtekpbdjnfobobaaRcp
import Derived.Test.YtekpbdjnfobobaaSpo
import Derived.Test.YtekpbdjnfobobaaRsc
import Derived.Deep.Cut
import Derived.WalkKit
import Derived.ProofKit
import Derived.OpenShut
namespace Go.Proofs.Ytekpbdjnfobobaa.contentFinds
open Go.ChangeShapes Go.WideShapes Go.ChangeAt Go.RowKit Con Go.Maps
set_option linter.unusedVariables false

theorem own : ownKnob Try.prog.godebug = none := by kernel_rfl

theorem eql_au (p : Au) (w : World) : (binOp .eql 41 (auv p) (auv p)).run Try.prog w = .ok (.bool true) w := by simp [go_sem]
theorem rc_two {w : World} {N Q1 Q2 : Nat} {a : Ab} {y : Fo} (h1 : w.heap[Q1]? = some (oAb a)) (h2 : w.heap[Q2]? = some (oFo y)) (hN1 : N ≤ Q1) (hN2 : N ≤ Q2) (he : PW ef w N a.ea a.eff) (hs : PW ln w N y.sa y.script) (hh : PW pz w N y.ha y.hoard) :
    PC w N ⟨some ⟨Q1, 0, none⟩, 1, [a], none, 0, [], some ⟨Q2, 0, none⟩, 1, [y], 0, 0, none, 0, [], 0, 0, 0, 0⟩ := by
  refine ⟨.inr ⟨Q1, 0, rfl, hN1, lt_of_heap h1, fun i x hx j v hv => ?_, froz_of h1⟩, .inl rfl, .inr ⟨Q2, 0, rfl, hN2, lt_of_heap h2, fun i x hx j v hv => ?_, froz_of h2⟩, .inl rfl, fun q hq => ?_, fun q hq => ?_, fun q hq => ?_⟩
  · cases i with
    | zero =>
      simp at hx; subst hx
      have h8 : oAb a = .cells (encAb a).toArray 37 := rfl
      rw [h8] at h1
      have hv' : (encAb a)[j]? = some v := hv
      simp only [World.cell?, h1, Nat.zero_mul, Nat.zero_add]
      simpa using hv'
    | succ i => simp at hx
  · cases i with
    | zero =>
      simp at hx; subst hx
      have h8 : oFo y = .cells (encFo y).toArray 47 := rfl
      rw [h8] at h2
      have hv' : (encFo y)[j]? = some v := hv
      simp only [World.cell?, h2, Nat.zero_mul, Nat.zero_add]
      simpa using hv'
    | succ i => simp at hx
  · simp at hq; subst hq; exact he
  · simp at hq; subst hq; exact hs
  · simp at hq; subst hq; exact hh
theorem oCn_cells {w : World} {P : Nat} {c : Cn} (h : w.heap[P]? = some (oCn c)) : w.cell? ⟨P, 0, none⟩ = some (.slice c.aA c.ab.length c.aC) ∧ w.cell? ⟨P, 1, none⟩ = some (.slice c.uA c.au.length c.uC) ∧ w.cell? ⟨P, 2, none⟩ = some (.slice c.fA c.fo.length c.fC) ∧ w.cell? ⟨P, 3, none⟩ = some (.int .i64 c.W) ∧ w.cell? ⟨P, 4, none⟩ = some (.int .i64 c.H) ∧ w.cell? ⟨P, 5, none⟩ = some (.slice c.gA c.wl.length c.gC) ∧ w.cell? ⟨P, 6, none⟩ = some (.int .i64 c.dx) ∧ w.cell? ⟨P, 7, none⟩ = some (.int .i64 c.dy) ∧ w.cell? ⟨P, 8, none⟩ = some (.int .i64 c.lx) ∧ w.cell? ⟨P, 9, none⟩ = some (.int .i64 c.ly) :=
  ⟨cell_of h 0, cell_of h 1, cell_of h 2, cell_of h 3, cell_of h 4, cell_of h 5, cell_of h 6, cell_of h 7, cell_of h 8, cell_of h 9⟩
theorem oAu_cells {w : World} {P : Nat} {p : Au} (h : w.heap[P]? = some (oAu p)) : w.cell? ⟨P, 0, none⟩ = some (.int .i64 p.id) ∧ w.cell? ⟨P, 1, none⟩ = some (.int .i64 p.kind) ∧ w.cell? ⟨P, 2, none⟩ = some (.int .i64 p.ticks) ∧ w.cell? ⟨P, 3, none⟩ = some (.int .i64 p.every) ∧ w.cell? ⟨P, 4, none⟩ = some (.int .i64 p.stacks) ∧ w.cell? ⟨P, 5, none⟩ = some (.int .i64 p.amount) ∧ w.cell? ⟨P, 6, none⟩ = some (.bool p.harm) :=
  ⟨cell_of h 0, cell_of h 1, cell_of h 2, cell_of h 3, cell_of h 4, cell_of h 5, cell_of h 6⟩
theorem keep {w w' : World} {P : Nat} {o : Obj} (hb : Below w.heap.size w w') (h : w.heap[P]? = some o) : w'.heap[P]? = some o := (hb.block _ (lt_of_heap h)).trans h
theorem fd_fo2 {c : Cn} (hs : Sm c) {id : Int} {y : Fo} {x : Bool} (h : FD Fo.id zFo c.fo id y x) : (y.script.length : Int) ≤ 100 ∧ (y.hoard.length : Int) ≤ 100 := by
  rcases h with ⟨_, i, h1, _⟩ | ⟨_, h2, _⟩
  · have := List.mem_of_getElem? h1; exact ⟨hs.scrs y this, hs.hors y this⟩
  · subst h2; exact ⟨by simp [zFo], by simp [zFo]⟩
theorem fd_ab2 {c : Cn} (hs : Sm c) {id : Int} {a : Ab} {x : Bool} (h : FD Ab.id zAb c.ab id a x) : (a.eff.length : Int) ≤ 100 := by
  rcases h with ⟨_, i, h1, _⟩ | ⟨_, h2, _⟩
  · have := List.mem_of_getElem? h1; exact hs.effs a this
  · subst h2; simp [zAb]
theorem two_new {w : World} {N : Nat} {a : Ab} {y : Fo} (hN : N ≤ w.heap.size) (he : PW ef w N a.ea a.eff) (hs : PW ln w N y.sa y.script) (hh : PW pz w N y.ha y.hoard) :
    PC ((w.alloc (oAb a)).alloc (oFo y)) N ⟨some ⟨w.heap.size, 0, none⟩, 1, [a], none, 0, [], some ⟨w.heap.size + 1, 0, none⟩, 1, [y], 0, 0, none, 0, [], 0, 0, 0, 0⟩ ∧ Below w.heap.size w ((w.alloc (oAb a)).alloc (oFo y)) := by
  have hb : Below w.heap.size w ((w.alloc (oAb a)).alloc (oFo y)) := by go_grown
  refine ⟨rc_two ?_ ?_ hN (by omega) (he.of hb) (hs.of hb) (hh.of hb), hb⟩
  · rw [Below.heap_alloc _ _ _ (by simp)]; exact heap_alloc_new w _
  · have := heap_alloc_new (w.alloc (oAb a)) (oFo y); simpa using this
set_option maxRecDepth 20000 in
theorem spoil2 {w X : World} {N Q1 Q2 : Nat} {a : Ab} {y : Fo} (h : PC X N ⟨some ⟨Q1, 0, none⟩, 1, [a], none, 0, [], some ⟨Q2, 0, none⟩, 1, [y], 0, 0, none, 0, [], 0, 0, 0, 0⟩ ∧ Below w.heap.size w X) (hN : N ≤ w.heap.size) (m1 : (a.eff.length : Int) ≤ 100) (m2 : (y.script.length : Int) ≤ 100) (m3 : (y.hoard.length : Int) ≤ 100) :
    Calls Try.prog 18 #[.agg #[.slice (some ⟨Q1, 0, none⟩) 1 1, .slice none 0 0, .slice (some ⟨Q2, 0, none⟩) 1 1, .int .i64 0, .int .i64 0, .slice none 0 0, .int .i64 0, .int .i64 0, .int .i64 0, .int .i64 0]] X fun e w' => e = .returned (.tuple #[]) ∧ Below N X w' :=
  spoil_c (⟨some ⟨Q1, 0, none⟩, 1, [a], none, 0, [], some ⟨Q2, 0, none⟩, 1, [y], 0, 0, none, 0, [], 0, 0, 0, 0⟩ : Cn) h.1 (Nat.le_trans hN h.2.size) ⟨by simp, by simp, by simp, by simp, fun q hq => by simp at hq; subst hq; exact m1, fun q hq => by simp at hq; subst hq; exact m2, fun q hq => by simp at hq; subst hq; exact m3⟩
set_option maxRecDepth 100000 in
set_option maxHeartbeats 64000000 in
theorem walk (W : World) (c : Cn) (hr : RC W W.heap.size c) (_hc : c.fo.length ≤ c.fC) (d : Cn) (hd : RC W W.heap.size d) (_hd : d.fo.length ≤ d.fC) (id : Int) (_hid : Fits id) : Calls Try.prog 3 #[cnv c, cnv d, .int .i64 id] W fun e w' => e = .returned (.bool true) ∧ Below W.heap.size W w' := by
  obtain ⟨x, hx⟩ := bex (FewP c)
  obtain ⟨z, hz⟩ := bex (FewP d)
  have hb0 : Below W.heap.size W ((W.alloc (oCn c)).alloc (oCn d)) := by go_grown
  have HXc : Hid (((W.alloc (oCn c)).alloc (oCn d)).heap[W.heap.size]? = some (oCn c)) := Lib.hid ((Below.heap_alloc _ _ _ (by simp)).trans (heap_alloc_new W _))
  have HXd : Hid (((W.alloc (oCn c)).alloc (oCn d)).heap[W.heap.size + 1]? = some (oCn d)) := Lib.hid (by have := heap_alloc_new (W.alloc (oCn c)) (oCn d); simpa using this)
  have HR := Lib.hid (hr.below hb0 (Nat.le_refl _)); have HD := Lib.hid (hd.below hb0 (Nat.le_refl _))
  have HBV := Lib.hid hb0.size; have HB0 := Lib.hid hb0
  clear hb0 hr hd
  go_enter Try.func3, Try.ntmps3
  go_wp2_with (fail)
  generalize ((W.alloc (oCn c)).alloc (oCn d)) = V at *
  have HFc : Hid (∀ V1, Below V.heap.size V V1 → Calls Try.prog 6 #[cnv c] V1 fun e w' => e = .returned (.bool x) ∧ Below V1.heap.size V1 w') := Lib.hid (fun V1 hV1 => few_c c (HR.out.below hV1 HBV.out) (Nat.le_trans HBV.out hV1.size) x hx)
  have HFd : Hid (∀ V1, Below V.heap.size V V1 → Calls Try.prog 6 #[cnv d] V1 fun e w' => e = .returned (.bool z) ∧ Below V1.heap.size V1 w') := Lib.hid (fun V1 hV1 => few_c d (HD.out.below hV1 HBV.out) (Nat.le_trans HBV.out hV1.size) z hz)
  have Hx := Lib.hid hx.1; have Hz := Lib.hid hz.1
  clear hx hz
  have HBc : Hid (∀ V1, Below V.heap.size V V1 → V1.heap[W.heap.size]? = some (oCn c)) := Lib.hid (fun V1 h => keep h HXc.out)
  have HBd : Hid (∀ V1, Below V.heap.size V V1 → V1.heap[W.heap.size + 1]? = some (oCn d)) := Lib.hid (fun V1 h => keep h HXd.out)
  cases x with
  | false =>
    go_wp2_with (first
      | ((with_reducible refine (small_c _).mono ?_); rintro e w1 ⟨rfl, hB1⟩; have hV1 := hB1; obtain ⟨d0, d1, d2, d3, d4, d5, d6, d7, d8, d9⟩ := oCn_cells (HBc.out _ hV1))
      | ((with_reducible refine (HFc.out _ hV1).mono ?_); rintro e w2 ⟨rfl, hB2⟩; have hV2 := bstep hB2 hV1; clear d0 d1 d2 d3 d4 d5 d6 d7 d8 d9; obtain ⟨e0, e1, e2, e3, e4, e5, e6, e7, e8, e9⟩ := oCn_cells (HBd.out _ hV2)))
    go_ret
    exact ⟨rfl, HB0.out.trans (hV2.mono HBV.out)⟩
  | true =>
    cases z with
    | false =>
      go_wp2_with (first
        | ((with_reducible refine (small_c _).mono ?_); rintro e w1 ⟨rfl, hB1⟩; have hV1 := hB1; obtain ⟨d0, d1, d2, d3, d4, d5, d6, d7, d8, d9⟩ := oCn_cells (HBc.out _ hV1))
        | ((with_reducible refine (HFc.out _ hV1).mono ?_); rintro e w2 ⟨rfl, hB2⟩; have hV2 := bstep hB2 hV1; clear d0 d1 d2 d3 d4 d5 d6 d7 d8 d9; obtain ⟨e0, e1, e2, e3, e4, e5, e6, e7, e8, e9⟩ := oCn_cells (HBd.out _ hV2))
        | ((with_reducible refine (HFd.out _ hV2).mono ?_); rintro e w3 ⟨rfl, hB3⟩; have hV3 := bstep hB3 hV2; clear e0 e1 e2 e3 e4 e5 e6 e7 e8 e9; obtain ⟨d0, d1, d2, d3, d4, d5, d6, d7, d8, d9⟩ := oCn_cells (HBc.out _ hV3)))
      go_ret
      exact ⟨rfl, HB0.out.trans (hV3.mono HBV.out)⟩
    | true =>
      have HSm := Lib.hid (Hx.out rfl).sm; have HSd := Lib.hid (Hz.out rfl).sm
      clear Hx Hz
      obtain ⟨a, x1, hf1⟩ := fd_ex Ab.id zAb c.ab id
      obtain ⟨p, x2, hf2⟩ := fd_ex Au.id zAu c.au id
      obtain ⟨y, x3, hf3⟩ := fd_ex Fo.id zFo c.fo id
      obtain ⟨e9, he9⟩ := bex (c.pl = d.pl)
      have HF1 := Lib.hid hf1; have HF2 := Lib.hid hf2; have HF3 := Lib.hid hf3; have HE9 := Lib.hid he9
      clear hf1 hf2 hf3 he9
      have HLa0 := Lib.hid (fd_ab2 HSm.out HF1.out)
      have HLy0 := Lib.hid (fd_fo2 HSm.out HF3.out).1; have HLh0 := Lib.hid (fd_fo2 HSm.out HF3.out).2
      have HLa : Hid ((a.eff.length : Int) ≤ 100000) := Lib.hid (by have := HLa0.out; omega)
      have HLy : Hid ((y.script.length : Int) ≤ 100000) := Lib.hid (by have := HLy0.out; omega)
      have HLh : Hid ((y.hoard.length : Int) ≤ 100000) := Lib.hid (by have := HLh0.out; omega)
      go_wp2_with (first
        | ((with_reducible refine (small_c _).mono ?_); rintro e w1 ⟨rfl, hB1⟩; have hV1 := hB1; obtain ⟨d0, d1, d2, d3, d4, d5, d6, d7, d8, d9⟩ := oCn_cells (HBc.out _ hV1))
        | ((with_reducible refine (HFc.out _ hV1).mono ?_); rintro e w2 ⟨rfl, hB2⟩; have hV2 := bstep hB2 hV1; clear d0 d1 d2 d3 d4 d5 d6 d7 d8 d9; obtain ⟨e0, e1, e2, e3, e4, e5, e6, e7, e8, e9⟩ := oCn_cells (HBd.out _ hV2))
        | ((with_reducible refine (HFd.out _ hV2).mono ?_); rintro e w3 ⟨rfl, hB3⟩; have hV3 := bstep hB3 hV2; clear e0 e1 e2 e3 e4 e5 e6 e7 e8 e9; obtain ⟨d0, d1, d2, d3, d4, d5, d6, d7, d8, d9⟩ := oCn_cells (HBc.out _ hV3))
        | ((with_reducible refine (rcopy_c c (HR.out.below hV3 HBV.out) (Nat.le_trans HBV.out hV3.size) HSm.out).mono ?_); rintro e w4 ⟨k9, rfl, HK9, HR9, hB4⟩; have HV4 := Lib.hid (bstep hB4 hV3); clear d0 d1 d2 d3 d4 d5 d6 d7 d8 d9 hV1 hV2 hV3 hB1 hB2 hB3 hB4; obtain ⟨d0, d1, d2, d3, d4, d5, d6, d7, d8, d9⟩ := oCn_cells (HBc.out _ HV4.out); have hsz : W.heap.size < w4.heap.size := lt_of_heap (HBc.out _ HV4.out))
        | ((with_reducible refine (ability_any (HR.out.below (HV4.out.alloc HV4.out.size _) HBV.out) (Nat.le_trans HBV.out (HV4.out.alloc HV4.out.size _).size) HSm.out id a x1 HF1.out).mono ?_); rintro e w5 ⟨A5, c5, rfl, HO, hB⟩; have HV5 := Lib.hid (bstep hB (HV4.out.alloc HV4.out.size _)); obtain ⟨v4, hv4⟩ : ∃ v, v = w4.alloc (.cells #[.slice k9.aA k9.ab.length k9.aC, .slice k9.uA k9.au.length k9.uC, .slice k9.fA k9.fo.length k9.fC, .int .i64 k9.W, .int .i64 k9.H, .slice k9.gA k9.wl.length k9.gC, .int .i64 k9.dx, .int .i64 k9.dy, .int .i64 k9.lx, .int .i64 k9.ly] 31) := ⟨_, rfl⟩; have HC5 : Hid (Below v4.heap.size v4 w5) := Lib.hid (by rw [hv4]; exact hB); have HV0 : Hid (Below V.heap.size V v4) := Lib.hid (by rw [hv4]; exact HV4.out.alloc HV4.out.size _); have HP9 : Hid (v4.heap[w4.heap.size]? = some (oCn k9)) := Lib.hid (by rw [hv4]; exact heap_alloc_new w4 _); have HRk : Hid (RC v4 v4.heap.size k9) := Lib.hid (by rw [hv4]; exact (HR9.out.below ((Below.refl _ _).alloc (Nat.le_refl _) _) (Nat.le_refl _)).more (by simp)); have hq4 : w4.heap.size < v4.heap.size := (by rw [hv4]; simp); have HQ4 := Lib.hid hq4; have HS5 : Hid (Below w4.heap.size w4 w5) := Lib.hid (((Below.refl _ _).alloc (Nat.le_refl _) _).trans (hB.mono (by simp))); have HWa : Hid (PW ef w5 v4.heap.size A5 a.eff) := Lib.hid (HO.out.pw.mono (Nat.le_of_eq (congrArg (fun V : World => V.heap.size) hv4))); clear hv4 HR9 hq4; clear hB hsz d0 d1 d2 d3 d4 d5 d6 d7 d8 d9 HO; obtain ⟨d0, d1, d2, d3, d4, d5, d6, d7, d8, d9⟩ := oCn_cells (HBc.out _ HV5.out); have hsz : W.heap.size < w5.heap.size := lt_of_heap (HBc.out _ HV5.out))
        | ((with_reducible refine (rability_any (HR.out.below (HV5.out.alloc HV5.out.size _) HBV.out) (Nat.le_trans HBV.out (HV5.out.alloc HV5.out.size _).size) HSm.out id a x1 HF1.out).mono ?_); rintro e w6 ⟨A6, c6, rfl, HO, hB⟩; have HV6 := Lib.hid (bstep hB (HV5.out.alloc HV5.out.size _)); have HC6 := Lib.hid (bstep hB (HC5.out.alloc HC5.out.size _)); have HS6 : Hid (Below w5.heap.size w5 w6) := Lib.hid (((Below.refl _ _).alloc (Nat.le_refl _) _).trans (hB.mono (by simp))); have HP5_ : Hid (w6.heap[w5.heap.size]? = some (.cells #[.int .i64 a.id, .int .i64 a.cast, .int .i64 a.cool, .int .i64 a.charges, .int .i64 a.range, .int .i64 a.cost, .bool a.sight, .slice A5 a.eff.length c5] 37)) := Lib.hid (keep hB (heap_alloc_new w5 _)); have HWa := Lib.hid (HWa.out.of HS6.out); have HWb := Lib.hid (HO.out.pw.mono (HC5.out.alloc HC5.out.size _).size); clear hB hsz d0 d1 d2 d3 d4 d5 d6 d7 d8 d9 HO; obtain ⟨d0, d1, d2, d3, d4, d5, d6, d7, d8, d9⟩ := oCn_cells (HBc.out _ HV6.out); have hsz : W.heap.size < w6.heap.size := lt_of_heap (HBc.out _ HV6.out))
        | ((with_reducible refine (aura_any (HR.out.below (HV6.out.alloc HV6.out.size _) HBV.out) (Nat.le_trans HBV.out (HV6.out.alloc HV6.out.size _).size) HSm.out id p x2 HF2.out).mono ?_); rintro e w7 ⟨rfl, hB⟩; have HV7 := Lib.hid (bstep hB (HV6.out.alloc HV6.out.size _)); have HC7 := Lib.hid (bstep hB (HC6.out.alloc HC6.out.size _)); have HS7 : Hid (Below w6.heap.size w6 w7) := Lib.hid (((Below.refl _ _).alloc (Nat.le_refl _) _).trans (hB.mono (by simp))); have HP6_ : Hid (w7.heap[w6.heap.size]? = some (.cells #[.int .i64 a.id, .int .i64 a.cast, .int .i64 a.cool, .int .i64 a.charges, .int .i64 a.range, .int .i64 a.cost, .bool a.sight, .slice A6 a.eff.length c6] 37)) := Lib.hid (keep hB (heap_alloc_new w6 _)); have HP5_ := Lib.hid (keep HS7.out HP5_.out); have HWa := Lib.hid (HWa.out.of HS7.out); have HWb := Lib.hid (HWb.out.of HS7.out); clear hB hsz d0 d1 d2 d3 d4 d5 d6 d7 d8 d9; obtain ⟨d0, d1, d2, d3, d4, d5, d6, d7, d8, d9⟩ := oCn_cells (HBc.out _ HV7.out); have hsz : W.heap.size < w7.heap.size := lt_of_heap (HBc.out _ HV7.out))
        | ((with_reducible refine (raura_any (HR.out.below (HV7.out.alloc HV7.out.size _) HBV.out) (Nat.le_trans HBV.out (HV7.out.alloc HV7.out.size _).size) HSm.out id p x2 HF2.out).mono ?_); rintro e w8 ⟨rfl, hB⟩; have HV8 := Lib.hid (bstep hB (HV7.out.alloc HV7.out.size _)); have HC8 := Lib.hid (bstep hB (HC7.out.alloc HC7.out.size _)); have HS8 : Hid (Below w7.heap.size w7 w8) := Lib.hid (((Below.refl _ _).alloc (Nat.le_refl _) _).trans (hB.mono (by simp))); have HP7_ : Hid (w8.heap[w7.heap.size]? = some (.cells #[.int .i64 p.id, .int .i64 p.kind, .int .i64 p.ticks, .int .i64 p.every, .int .i64 p.stacks, .int .i64 p.amount, .bool p.harm] 41)) := Lib.hid (keep hB (heap_alloc_new w7 _)); have HP5_ := Lib.hid (keep HS8.out HP5_.out); have HP6_ := Lib.hid (keep HS8.out HP6_.out); have HWa := Lib.hid (HWa.out.of HS8.out); have HWb := Lib.hid (HWb.out.of HS8.out); clear hB hsz d0 d1 d2 d3 d4 d5 d6 d7 d8 d9; obtain ⟨d0, d1, d2, d3, d4, d5, d6, d7, d8, d9⟩ := oCn_cells (HBc.out _ HV8.out); have hsz : W.heap.size < w8.heap.size := lt_of_heap (HBc.out _ HV8.out))
        | ((with_reducible refine (foe_any (HR.out.below (HV8.out.alloc HV8.out.size _) HBV.out) (Nat.le_trans HBV.out (HV8.out.alloc HV8.out.size _).size) HSm.out id y x3 HF3.out).mono ?_); rintro e w9 ⟨A9, c9, A19, c19, rfl, HO, HO2, hB⟩; have HV9 := Lib.hid (bstep hB (HV8.out.alloc HV8.out.size _)); have HC9 := Lib.hid (bstep hB (HC8.out.alloc HC8.out.size _)); have HS9 : Hid (Below w8.heap.size w8 w9) := Lib.hid (((Below.refl _ _).alloc (Nat.le_refl _) _).trans (hB.mono (by simp))); have HP8_ : Hid (w9.heap[w8.heap.size]? = some (.cells #[.int .i64 p.id, .int .i64 p.kind, .int .i64 p.ticks, .int .i64 p.every, .int .i64 p.stacks, .int .i64 p.amount, .bool p.harm] 41)) := Lib.hid (keep hB (heap_alloc_new w8 _)); have HP5_ := Lib.hid (keep HS9.out HP5_.out); have HP6_ := Lib.hid (keep HS9.out HP6_.out); have HP7_ := Lib.hid (keep HS9.out HP7_.out); have HWa := Lib.hid (HWa.out.of HS9.out); have HWb := Lib.hid (HWb.out.of HS9.out); have HWs := Lib.hid (HO.out.pw.mono (HC8.out.alloc HC8.out.size _).size); have HWh := Lib.hid (HO2.out.pw.mono (HC8.out.alloc HC8.out.size _).size); clear hB hsz d0 d1 d2 d3 d4 d5 d6 d7 d8 d9 HO HO2; obtain ⟨d0, d1, d2, d3, d4, d5, d6, d7, d8, d9⟩ := oCn_cells (HBc.out _ HV9.out); have hsz : W.heap.size < w9.heap.size := lt_of_heap (HBc.out _ HV9.out))
        | ((with_reducible refine (rfoe_any (HR.out.below (HV9.out.alloc HV9.out.size _) HBV.out) (Nat.le_trans HBV.out (HV9.out.alloc HV9.out.size _).size) HSm.out id y x3 HF3.out).mono ?_); rintro e w10 ⟨A10, c10, A11, c11, rfl, HO, HO2, hB⟩; have HV10 := Lib.hid (bstep hB (HV9.out.alloc HV9.out.size _)); have HC10 := Lib.hid (bstep hB (HC9.out.alloc HC9.out.size _)); have HS10 : Hid (Below w9.heap.size w9 w10) := Lib.hid (((Below.refl _ _).alloc (Nat.le_refl _) _).trans (hB.mono (by simp))); have HP9_ : Hid (w10.heap[w9.heap.size]? = some (.cells #[.int .i64 y.id, .int .i64 y.health, .int .i64 y.hit, .int .i64 y.every, .int .i64 y.reach, .slice A9 y.script.length c9, .slice A19 y.hoard.length c19, .int .i64 y.drops] 47)) := Lib.hid (keep hB (heap_alloc_new w9 _)); have HP5_ := Lib.hid (keep HS10.out HP5_.out); have HP6_ := Lib.hid (keep HS10.out HP6_.out); have HP7_ := Lib.hid (keep HS10.out HP7_.out); have HP8_ := Lib.hid (keep HS10.out HP8_.out); have HWa := Lib.hid (HWa.out.of HS10.out); have HWb := Lib.hid (HWb.out.of HS10.out); have HWs := Lib.hid (HWs.out.of HS10.out); have HWh := Lib.hid (HWh.out.of HS10.out); have HWt := Lib.hid (HO.out.pw.mono (HC9.out.alloc HC9.out.size _).size); have HWg := Lib.hid (HO2.out.pw.mono (HC9.out.alloc HC9.out.size _).size); clear hB hsz d0 d1 d2 d3 d4 d5 d6 d7 d8 d9 HO HO2; obtain ⟨d0, d1, d2, d3, d4, d5, d6, d7, d8, d9⟩ := oCn_cells (HBc.out _ HV10.out); have hsz : W.heap.size < w10.heap.size := lt_of_heap (HBc.out _ HV10.out); obtain ⟨ba0, ba1, ba2, ba3, ba4, ba5, ba6, ba7⟩ := oAb_cells (a := a.re A5 c5) HP5_.out; have hbaz := lt_of_heap HP5_.out; obtain ⟨bb0, bb1, bb2, bb3, bb4, bb5, bb6, bb7⟩ := oAb_cells (a := a.re A6 c6) HP6_.out; have hbbz := lt_of_heap HP6_.out; obtain ⟨bc0, bc1, bc2, bc3, bc4, bc5, bc6⟩ := oAu_cells HP7_.out; have hbcz := lt_of_heap HP7_.out; obtain ⟨bd0, bd1, bd2, bd3, bd4, bd5, bd6⟩ := oAu_cells HP8_.out; have hbdz := lt_of_heap HP8_.out; obtain ⟨be0, be1, be2, be3, be4, be5, be6, be7⟩ := oFo_cells (a := y.re A9 c9 A19 c19) HP9_.out; have hbez := lt_of_heap HP9_.out)
        | ((with_reducible refine (rsameAb (a.re A5 c5) (a.re A6 c6) (HWa.out.of ((Below.refl w10.heap.size w10).alloc (Nat.le_refl _) (.cells #[.int .i64 y.id, .int .i64 y.health, .int .i64 y.hit, .int .i64 y.every, .int .i64 y.reach, .slice A10 y.script.length c10, .slice A11 y.hoard.length c11, .int .i64 y.drops] 47))).rw' (HWb.out.of ((Below.refl w10.heap.size w10).alloc (Nat.le_refl _) (.cells #[.int .i64 y.id, .int .i64 y.health, .int .i64 y.hit, .int .i64 y.every, .int .i64 y.reach, .slice A10 y.script.length c10, .slice A11 y.hoard.length c11, .int .i64 y.drops] 47))).rw' (Nat.le_refl _) HLa.out true ⟨fun _ => rfl, fun _ => rfl⟩).mono ?_); rintro e w11 ⟨rfl, hB⟩; have HS11 : Hid (Below w10.heap.size w10 w11) := Lib.hid (((Below.refl w10.heap.size w10).alloc (Nat.le_refl _) (.cells #[.int .i64 y.id, .int .i64 y.health, .int .i64 y.hit, .int .i64 y.every, .int .i64 y.reach, .slice A10 y.script.length c10, .slice A11 y.hoard.length c11, .int .i64 y.drops] 47)).trans (hB.mono (by simp))); have HP10_ : Hid (w11.heap[w10.heap.size]? = some (.cells #[.int .i64 y.id, .int .i64 y.health, .int .i64 y.hit, .int .i64 y.every, .int .i64 y.reach, .slice A10 y.script.length c10, .slice A11 y.hoard.length c11, .int .i64 y.drops] 47)) := Lib.hid (keep hB (heap_alloc_new w10 _)); clear ba0 ba1 ba2 ba3 ba4 ba5 ba6 ba7 hbaz bb0 bb1 bb2 bb3 bb4 bb5 bb6 bb7 hbbz bc0 bc1 bc2 bc3 bc4 bc5 bc6 hbcz bd0 bd1 bd2 bd3 bd4 bd5 bd6 hbdz be0 be1 be2 be3 be4 be5 be6 be7 hbez; have HP5_ := Lib.hid (keep HS11.out HP5_.out); have HP6_ := Lib.hid (keep HS11.out HP6_.out); have HP7_ := Lib.hid (keep HS11.out HP7_.out); have HP8_ := Lib.hid (keep HS11.out HP8_.out); have HP9_ := Lib.hid (keep HS11.out HP9_.out); have HWa := Lib.hid (HWa.out.of HS11.out); have HWb := Lib.hid (HWb.out.of HS11.out); have HWs := Lib.hid (HWs.out.of HS11.out); have HWh := Lib.hid (HWh.out.of HS11.out); have HWt := Lib.hid (HWt.out.of HS11.out); have HWg := Lib.hid (HWg.out.of HS11.out); have HV11 := Lib.hid (HV10.out.trans (HS11.out.mono HV10.out.size)); have HC11 := Lib.hid (HC10.out.trans (HS11.out.mono HC10.out.size)); obtain ⟨bc0, bc1, bc2, bc3, bc4, bc5, bc6⟩ := oAu_cells HP7_.out; have hbcz := lt_of_heap HP7_.out; obtain ⟨bd0, bd1, bd2, bd3, bd4, bd5, bd6⟩ := oAu_cells HP8_.out; have hbdz := lt_of_heap HP8_.out; obtain ⟨be0, be1, be2, be3, be4, be5, be6, be7⟩ := oFo_cells (a := y.re A9 c9 A19 c19) HP9_.out; have hbez := lt_of_heap HP9_.out; obtain ⟨bf0, bf1, bf2, bf3, bf4, bf5, bf6, bf7⟩ := oFo_cells (a := y.re A10 c10 A11 c11) HP10_.out; have hbfz := lt_of_heap HP10_.out; clear hB hsz d0 d1 d2 d3 d4 d5 d6 d7 d8 d9; have heq := eql_au p)
        | ((with_reducible refine (rsameFo (y.re A9 c9 A19 c19) (y.re A10 c10 A11 c11) HWs.out.rw' HWt.out.rw' HWh.out.rw' HWg.out.rw' (Nat.le_refl _) HLy.out HLh.out true ⟨fun _ => rfl, fun _ => rfl⟩).mono ?_); rintro e w12 ⟨rfl, hB⟩; have HS12 := Lib.hid hB; clear bc0 bc1 bc2 bc3 bc4 bc5 bc6 hbcz bd0 bd1 bd2 bd3 bd4 bd5 bd6 hbdz be0 be1 be2 be3 be4 be5 be6 be7 hbez bf0 bf1 bf2 bf3 bf4 bf5 bf6 bf7 hbfz; have HP5_ := Lib.hid (keep HS12.out HP5_.out); have HP9_ := Lib.hid (keep HS12.out HP9_.out); have HWa := Lib.hid (HWa.out.of HS12.out); have HWs := Lib.hid (HWs.out.of HS12.out); have HWh := Lib.hid (HWh.out.of HS12.out); have HV12 := Lib.hid (bstep hB HV11.out); have HC12 := Lib.hid (bstep hB HC11.out); clear hB heq HP6_ HP7_ HP8_ HP10_ HWb HWt HWg; obtain ⟨d0, d1, d2, d3, d4, d5, d6, d7, d8, d9⟩ := oCn_cells (HBc.out _ HV12.out); have hsz : W.heap.size < w12.heap.size := lt_of_heap (HBc.out _ HV12.out))
        | ((with_reducible refine (copy_c c (HR.out.below HV12.out HBV.out) (Nat.le_trans HBV.out HV12.out.size) HSm.out).mono ?_); rintro e w13 ⟨kk, rfl, HKk, HPk, hB⟩; have HS13 := Lib.hid hB; have HV13 := Lib.hid (bstep hB HV12.out); clear hB hsz d0 d1 d2 d3 d4 d5 d6 d7 d8 d9; obtain ⟨d0, d1, d2, d3, d4, d5, d6, d7, d8, d9⟩ := oCn_cells (HBc.out _ HV13.out); have hsz : W.heap.size < w13.heap.size := lt_of_heap (HBc.out _ HV13.out))
        | ((with_reducible refine (rsame_c kk c (HPk.out.of ((Below.refl w13.heap.size w13).alloc (Nat.le_refl _) (.cells #[.slice kk.aA kk.ab.length kk.aC, .slice kk.uA kk.au.length kk.uC, .slice kk.fA kk.fo.length kk.fC, .int .i64 kk.W, .int .i64 kk.H, .slice kk.gA kk.wl.length kk.gC, .int .i64 kk.dx, .int .i64 kk.dy, .int .i64 kk.lx, .int .i64 kk.ly] 31))).rc ((HR.out.below (HV13.out.trans (((Below.refl w13.heap.size w13).alloc (Nat.le_refl _) (.cells #[.slice kk.aA kk.ab.length kk.aC, .slice kk.uA kk.au.length kk.uC, .slice kk.fA kk.fo.length kk.fC, .int .i64 kk.W, .int .i64 kk.H, .slice kk.gA kk.wl.length kk.gC, .int .i64 kk.dx, .int .i64 kk.dy, .int .i64 kk.lx, .int .i64 kk.ly] 31)).mono HV13.out.size)) HBV.out).more (Nat.le_trans HBV.out (HV13.out.trans (((Below.refl w13.heap.size w13).alloc (Nat.le_refl _) (.cells #[.slice kk.aA kk.ab.length kk.aC, .slice kk.uA kk.au.length kk.uC, .slice kk.fA kk.fo.length kk.fC, .int .i64 kk.W, .int .i64 kk.H, .slice kk.gA kk.wl.length kk.gC, .int .i64 kk.dx, .int .i64 kk.dy, .int .i64 kk.lx, .int .i64 kk.ly] 31)).mono HV13.out.size)).size)) (Nat.le_refl _) (HSm.out.of_pl HKk.out) true ⟨fun _ => HKk.out, fun _ => rfl⟩).mono ?_); rintro e w14 ⟨rfl, hB⟩; have HS14 : Hid (Below w13.heap.size w13 w14) := Lib.hid (((Below.refl w13.heap.size w13).alloc (Nat.le_refl _) (.cells #[.slice kk.aA kk.ab.length kk.aC, .slice kk.uA kk.au.length kk.uC, .slice kk.fA kk.fo.length kk.fC, .int .i64 kk.W, .int .i64 kk.H, .slice kk.gA kk.wl.length kk.gC, .int .i64 kk.dx, .int .i64 kk.dy, .int .i64 kk.lx, .int .i64 kk.ly] 31)).trans (hB.mono (by simp))); have HPK : Hid (w14.heap[w13.heap.size]? = some (oCn kk)) := Lib.hid (keep hB (heap_alloc_new w13 _)); have HPk := Lib.hid (HPk.out.of HS14.out); clear hB hsz d0 d1 d2 d3 d4 d5 d6 d7 d8 d9; obtain ⟨d0, d1, d2, d3, d4, d5, d6, d7, d8, d9⟩ := oCn_cells HPK.out)
        | ((with_reducible refine (spoil_c kk HPk.out (Nat.le_trans HS13.out.size HS14.out.size) (HSm.out.of_pl HKk.out)).mono ?_); rintro e w15 ⟨rfl, hB⟩; have HS15 : Hid (Below w12.heap.size w12 w15) := Lib.hid ((HS13.out.trans (HS14.out.mono HS13.out.size)).trans hB); clear hB HPk HPK HKk HS13 HS14 HV13 d0 d1 d2 d3 d4 d5 d6 d7 d8 d9; have HP5_ := Lib.hid (keep HS15.out HP5_.out); have HP9_ := Lib.hid (keep HS15.out HP9_.out); have HWa := Lib.hid (HWa.out.of HS15.out); have HWs := Lib.hid (HWs.out.of HS15.out); have HWh := Lib.hid (HWh.out.of HS15.out); have HC15 := Lib.hid (HC12.out.trans (HS15.out.mono HC12.out.size)); obtain ⟨ba0, ba1, ba2, ba3, ba4, ba5, ba6, ba7⟩ := oAb_cells (a := a.re A5 c5) HP5_.out; have hbaz := lt_of_heap HP5_.out; obtain ⟨be0, be1, be2, be3, be4, be5, be6, be7⟩ := oFo_cells (a := y.re A9 c9 A19 c19) HP9_.out; have hbez := lt_of_heap HP9_.out; have HW2 : Hid (PC ((w15.alloc (.cells #[.int .i64 a.id, .int .i64 a.cast, .int .i64 a.cool, .int .i64 a.charges, .int .i64 a.range, .int .i64 a.cost, .bool a.sight, .slice A5 a.eff.length c5] 37)).alloc (.cells #[.int .i64 y.id, .int .i64 y.health, .int .i64 y.hit, .int .i64 y.every, .int .i64 y.reach, .slice A9 y.script.length c9, .slice A19 y.hoard.length c19, .int .i64 y.drops] 47)) v4.heap.size ⟨some ⟨w15.heap.size, 0, none⟩, 1, [a.re A5 c5], none, 0, [], some ⟨w15.heap.size + 1, 0, none⟩, 1, [y.re A9 c9 A19 c19], 0, 0, none, 0, [], 0, 0, 0, 0⟩ ∧ Below w15.heap.size w15 ((w15.alloc (.cells #[.int .i64 a.id, .int .i64 a.cast, .int .i64 a.cool, .int .i64 a.charges, .int .i64 a.range, .int .i64 a.cost, .bool a.sight, .slice A5 a.eff.length c5] 37)).alloc (.cells #[.int .i64 y.id, .int .i64 y.health, .int .i64 y.hit, .int .i64 y.every, .int .i64 y.reach, .slice A9 y.script.length c9, .slice A19 y.hoard.length c19, .int .i64 y.drops] 47))) := Lib.hid (two_new (a := a.re A5 c5) (y := y.re A9 c9 A19 c19) HC15.out.size HWa.out HWs.out HWh.out))
        | ((with_reducible refine (spoil2 HW2.out HC15.out.size HLa0.out HLy0.out HLh0.out).mono ?_); rintro e w16 ⟨rfl, hB⟩; have HCF : Hid (Below v4.heap.size v4 w16) := Lib.hid (HC15.out.trans ((HW2.out.2.mono HC15.out.size).trans hB)); clear ba0 ba1 ba2 ba3 ba4 ba5 ba6 ba7 hbaz be0 be1 be2 be3 be4 be5 be6 be7 hbez; clear hB))
      have hee : (e9 == e9) = true := by simp
      have hS0 : Below v4.heap.size v4 w16.drew := HCF.out.drew
      refine wp_region_noPanic ?_
      refine wp_region_held_drew (S := fun w' => Below v4.heap.size v4 w') (by kernel_rfl) hS0 (fun _ => ?_)
      generalize w16.drew = v0 at hS0 ⊢
      refine wpAnyH_take (i := 0) (oi := ⟨some 114, Op.move (Operand.tmp 7), 4, _, _, none⟩) (v := ?vz0) rfl (by kernel_rfl) (by kernel_rfl) (by kernel_rfl) (fun _ _ _ h => h) (Or.inl ⟨by rfl, ?hz0⟩) hS0 ?rz0
      case hz0 => (intro wz hSw; go_simp <;> with_reducible rfl)
      (try simp only [Act.put, List.setIfInBounds_toArray, List.set_cons_zero, List.set_cons_succ])
      refine wpAnyH_take (i := 1) (oi := ⟨some 115, Op.move (Operand.tmp 114), 4, _, _, none⟩) (v := ?vz1) rfl (by kernel_rfl) (by kernel_rfl) (by kernel_rfl) (fun _ _ _ h => h) (Or.inl ⟨by rfl, ?hz1⟩) hS0 ?rz1
      case hz1 => (intro wz hSw; go_simp <;> with_reducible rfl)
      (try simp only [Act.put, List.setIfInBounds_toArray, List.set_cons_zero, List.set_cons_succ])
      refine wpAnyH_take (i := 2) (oi := ⟨some 116, Op.move (Operand.tmp 22), 4, _, _, some (1, true)⟩) (v := ?vz2) rfl (by kernel_rfl) (by kernel_rfl) (by kernel_rfl) (fun _ _ _ h => h) (Or.inl ⟨by rfl, ?hz2⟩) hS0 ?rz2
      case hz2 => (intro wz hSw; go_simp <;> with_reducible rfl)
      (try simp only [Act.put, List.setIfInBounds_toArray, List.set_cons_zero, List.set_cons_succ])
      refine wpAnyH_take (i := 3) (oi := ⟨some 117, Op.pick (Operand.tmp 115) (Operand.tmp 116) (Operand.const (Value.bool false)), 4, _, _, none⟩) (v := ?vz3) rfl (by kernel_rfl) (by kernel_rfl) (by kernel_rfl) (fun _ _ _ h => h) (Or.inl ⟨by rfl, ?hz3⟩) hS0 ?rz3
      case hz3 => (intro wz hSw; go_simp <;> with_reducible rfl)
      (try simp only [Act.put, List.setIfInBounds_toArray, List.set_cons_zero, List.set_cons_succ])
      refine wpAnyH_take (i := 4) (oi := ⟨some 118, Op.move (Operand.tmp 117), 4, _, _, none⟩) (v := ?vz4) rfl (by kernel_rfl) (by kernel_rfl) (by kernel_rfl) (fun _ _ _ h => h) (Or.inl ⟨by rfl, ?hz4⟩) hS0 ?rz4
      case hz4 => (intro wz hSw; go_simp <;> with_reducible rfl)
      (try simp only [Act.put, List.setIfInBounds_toArray, List.set_cons_zero, List.set_cons_succ])
      refine wpAnyH_take (i := 5) (oi := ⟨some 119, Op.move (Operand.tmp 24), 4, _, _, some (4, true)⟩) (v := ?vz5) rfl (by kernel_rfl) (by kernel_rfl) (by kernel_rfl) (fun _ _ _ h => h) (Or.inl ⟨by rfl, ?hz5⟩) hS0 ?rz5
      case hz5 => (intro wz hSw; go_simp <;> with_reducible rfl)
      (try simp only [Act.put, List.setIfInBounds_toArray, List.set_cons_zero, List.set_cons_succ])
      refine wpAnyH_take (i := 6) (oi := ⟨some 120, Op.pick (Operand.tmp 118) (Operand.tmp 119) (Operand.const (Value.bool false)), 4, _, _, none⟩) (v := ?vz6) rfl (by kernel_rfl) (by kernel_rfl) (by kernel_rfl) (fun _ _ _ h => h) (Or.inl ⟨by rfl, ?hz6⟩) hS0 ?rz6
      case hz6 => (intro wz hSw; go_simp <;> with_reducible rfl)
      (try simp only [Act.put, List.setIfInBounds_toArray, List.set_cons_zero, List.set_cons_succ])
      refine wpAnyH_take (i := 7) (oi := ⟨some 121, Op.move (Operand.tmp 120), 4, _, _, none⟩) (v := ?vz7) rfl (by kernel_rfl) (by kernel_rfl) (by kernel_rfl) (fun _ _ _ h => h) (Or.inl ⟨by rfl, ?hz7⟩) hS0 ?rz7
      case hz7 => (intro wz hSw; go_simp <;> with_reducible rfl)
      (try simp only [Act.put, List.setIfInBounds_toArray, List.set_cons_zero, List.set_cons_succ])
      refine wpAnyH_take (i := 8) (oi := ⟨some 122, Op.load 31 (Operand.tmp 3), 31, _, _, some (7, true)⟩) (v := ?vz8) rfl (by kernel_rfl) (by kernel_rfl) (by kernel_rfl) (fun _ _ _ h => h) (Or.inl ⟨by rfl, ?hz8⟩) hS0 ?rz8
      case hz8 => (intro wz hSw; obtain ⟨d0, d1, d2, d3, d4, d5, d6, d7, d8, d9⟩ := oCn_cells (HBc.out wz (HV0.out.trans (hSw.mono HV0.out.size))); obtain ⟨e0, e1, e2, e3, e4, e5, e6, e7, e8, e9⟩ := oCn_cells (HBd.out wz (HV0.out.trans (hSw.mono HV0.out.size))); obtain ⟨k0, k1, k2, k3, k4, k5, k6, k7, k8, k9⟩ := oCn_cells (keep hSw HP9.out); go_simp <;> with_reducible rfl)
      (try simp only [Act.put, List.setIfInBounds_toArray, List.set_cons_zero, List.set_cons_succ])
      refine wpAnyH_take (i := 9) (oi := ⟨some 123, Op.load 31 (Operand.tmp 9), 31, _, _, some (7, true)⟩) (v := ?vz9) rfl (by kernel_rfl) (by kernel_rfl) (by kernel_rfl) (fun _ _ _ h => h) (Or.inl ⟨by rfl, ?hz9⟩) hS0 ?rz9
      case hz9 => (intro wz hSw; obtain ⟨d0, d1, d2, d3, d4, d5, d6, d7, d8, d9⟩ := oCn_cells (HBc.out wz (HV0.out.trans (hSw.mono HV0.out.size))); obtain ⟨e0, e1, e2, e3, e4, e5, e6, e7, e8, e9⟩ := oCn_cells (HBd.out wz (HV0.out.trans (hSw.mono HV0.out.size))); obtain ⟨k0, k1, k2, k3, k4, k5, k6, k7, k8, k9⟩ := oCn_cells (keep hSw HP9.out); go_simp <;> with_reducible rfl)
      (try simp only [Act.put, List.setIfInBounds_toArray, List.set_cons_zero, List.set_cons_succ])
      refine wpAnyH_ready (rs := [10]) (by kernel_rfl) (by simp) ?_
      refine AllReadyH.cons (o := ⟨some 124, Op.call { callee := Callee.value (Operand.func 17), args := #[Operand.tmp 122, Operand.tmp 123], argTypes := #[31, 31] }, 4, _, _, some (7, true)⟩) rfl (fun K hK => ?_) AllReadyH.nil
      go_simp
      (with_reducible refine (rsame_c c k9 ((HR.out.below (HV0.out.trans (hS0.mono HV0.out.size)) HBV.out).more (Nat.le_trans HBV.out HV0.out.size)) (HRk.out.below hS0 (Nat.le_refl _)) hS0.size HSm.out true ⟨fun _ => HK9.out.symm, fun _ => rfl⟩).mono ?_); rintro e u1 ⟨rfl, hB1⟩; have hS1 := bstep hB1 hS0
      refine hK.out _ _ hS1 (fun _ => ?_)
      clear hK K
      (try simp only [Act.put, List.setIfInBounds_toArray, List.set_cons_zero, List.set_cons_succ])
      refine wpAnyH_take (i := 11) (oi := ⟨some 125, Op.pick (Operand.tmp 121) (Operand.tmp 124) (Operand.const (Value.bool false)), 4, _, _, none⟩) (v := ?vz11) rfl (by kernel_rfl) (by kernel_rfl) (by kernel_rfl) (fun _ _ _ h => h) (Or.inl ⟨by rfl, ?hz11⟩) hS1 ?rz11
      case hz11 => (intro wz hSw; go_simp <;> with_reducible rfl)
      (try simp only [Act.put, List.setIfInBounds_toArray, List.set_cons_zero, List.set_cons_succ])
      refine wpAnyH_take (i := 12) (oi := ⟨some 126, Op.move (Operand.tmp 125), 4, _, _, none⟩) (v := ?vz12) rfl (by kernel_rfl) (by kernel_rfl) (by kernel_rfl) (fun _ _ _ h => h) (Or.inl ⟨by rfl, ?hz12⟩) hS1 ?rz12
      case hz12 => (intro wz hSw; go_simp <;> with_reducible rfl)
      (try simp only [Act.put, List.setIfInBounds_toArray, List.set_cons_zero, List.set_cons_succ])
      refine wpAnyH_take (i := 13) (oi := ⟨some 127, Op.load 31 (Operand.tmp 3), 31, _, _, some (12, true)⟩) (v := ?vz13) rfl (by kernel_rfl) (by kernel_rfl) (by kernel_rfl) (fun _ _ _ h => h) (Or.inl ⟨by rfl, ?hz13⟩) hS1 ?rz13
      case hz13 => (intro wz hSw; obtain ⟨d0, d1, d2, d3, d4, d5, d6, d7, d8, d9⟩ := oCn_cells (HBc.out wz (HV0.out.trans (hSw.mono HV0.out.size))); obtain ⟨e0, e1, e2, e3, e4, e5, e6, e7, e8, e9⟩ := oCn_cells (HBd.out wz (HV0.out.trans (hSw.mono HV0.out.size))); obtain ⟨k0, k1, k2, k3, k4, k5, k6, k7, k8, k9⟩ := oCn_cells (keep hSw HP9.out); go_simp <;> with_reducible rfl)
      (try simp only [Act.put, List.setIfInBounds_toArray, List.set_cons_zero, List.set_cons_succ])
      refine wpAnyH_take (i := 14) (oi := ⟨some 128, Op.load 31 (Operand.tmp 4), 31, _, _, some (12, true)⟩) (v := ?vz14) rfl (by kernel_rfl) (by kernel_rfl) (by kernel_rfl) (fun _ _ _ h => h) (Or.inl ⟨by rfl, ?hz14⟩) hS1 ?rz14
      case hz14 => (intro wz hSw; obtain ⟨d0, d1, d2, d3, d4, d5, d6, d7, d8, d9⟩ := oCn_cells (HBc.out wz (HV0.out.trans (hSw.mono HV0.out.size))); obtain ⟨e0, e1, e2, e3, e4, e5, e6, e7, e8, e9⟩ := oCn_cells (HBd.out wz (HV0.out.trans (hSw.mono HV0.out.size))); obtain ⟨k0, k1, k2, k3, k4, k5, k6, k7, k8, k9⟩ := oCn_cells (keep hSw HP9.out); go_simp <;> with_reducible rfl)
      (try simp only [Act.put, List.setIfInBounds_toArray, List.set_cons_zero, List.set_cons_succ])
      refine wpAnyH_take (i := 16) (oi := ⟨some 130, Op.load 31 (Operand.tmp 3), 31, _, _, some (12, true)⟩) (v := ?vz16) rfl (by kernel_rfl) (by kernel_rfl) (by kernel_rfl) (fun _ _ _ h => h) (Or.inl ⟨by rfl, ?hz16⟩) hS1 ?rz16
      case hz16 => (intro wz hSw; obtain ⟨d0, d1, d2, d3, d4, d5, d6, d7, d8, d9⟩ := oCn_cells (HBc.out wz (HV0.out.trans (hSw.mono HV0.out.size))); obtain ⟨e0, e1, e2, e3, e4, e5, e6, e7, e8, e9⟩ := oCn_cells (HBd.out wz (HV0.out.trans (hSw.mono HV0.out.size))); obtain ⟨k0, k1, k2, k3, k4, k5, k6, k7, k8, k9⟩ := oCn_cells (keep hSw HP9.out); go_simp <;> with_reducible rfl)
      (try simp only [Act.put, List.setIfInBounds_toArray, List.set_cons_zero, List.set_cons_succ])
      refine wpAnyH_take (i := 17) (oi := ⟨some 131, Op.load 31 (Operand.tmp 4), 31, _, _, some (12, true)⟩) (v := ?vz17) rfl (by kernel_rfl) (by kernel_rfl) (by kernel_rfl) (fun _ _ _ h => h) (Or.inl ⟨by rfl, ?hz17⟩) hS1 ?rz17
      case hz17 => (intro wz hSw; obtain ⟨d0, d1, d2, d3, d4, d5, d6, d7, d8, d9⟩ := oCn_cells (HBc.out wz (HV0.out.trans (hSw.mono HV0.out.size))); obtain ⟨e0, e1, e2, e3, e4, e5, e6, e7, e8, e9⟩ := oCn_cells (HBd.out wz (HV0.out.trans (hSw.mono HV0.out.size))); obtain ⟨k0, k1, k2, k3, k4, k5, k6, k7, k8, k9⟩ := oCn_cells (keep hSw HP9.out); go_simp <;> with_reducible rfl)
      (try simp only [Act.put, List.setIfInBounds_toArray, List.set_cons_zero, List.set_cons_succ])
      refine wpAnyH_ready (rs := [15]) (by kernel_rfl) (by simp) ?_
      refine AllReadyH.cons (o := ⟨some 129, Op.call { callee := Callee.value (Operand.func 19), args := #[Operand.tmp 127, Operand.tmp 128], argTypes := #[31, 31] }, 4, _, _, some (12, true)⟩) rfl (fun K hK => ?_) AllReadyH.nil
      go_simp
      (with_reducible refine (same_c c d (HR.out.below (HV0.out.trans (hS1.mono HV0.out.size)) HBV.out) (HD.out.below (HV0.out.trans (hS1.mono HV0.out.size)) HBV.out) (Nat.le_trans HBV.out (HV0.out.trans (hS1.mono HV0.out.size)).size) HSm.out e9 HE9.out).mono ?_); rintro e u2 ⟨rfl, hB2⟩; have hS2 := bstep hB2 hS1
      refine hK.out _ _ hS2 (fun _ => ?_)
      clear hK K
      (try simp only [Act.put, List.setIfInBounds_toArray, List.set_cons_zero, List.set_cons_succ])
      refine wpAnyH_ready (rs := [18]) (by kernel_rfl) (by simp) ?_
      refine AllReadyH.cons (o := ⟨some 132, Op.call { callee := Callee.value (Operand.func 17), args := #[Operand.tmp 130, Operand.tmp 131], argTypes := #[31, 31] }, 4, _, _, some (12, true)⟩) rfl (fun K hK => ?_) AllReadyH.nil
      go_simp
      (with_reducible refine (rsame_c c d (HR.out.below (HV0.out.trans (hS2.mono HV0.out.size)) HBV.out) (HD.out.below (HV0.out.trans (hS2.mono HV0.out.size)) HBV.out) (Nat.le_trans HBV.out (HV0.out.trans (hS2.mono HV0.out.size)).size) HSm.out e9 HE9.out).mono ?_); rintro e u3 ⟨rfl, hB3⟩; have hS3 := bstep hB3 hS2
      refine hK.out _ _ hS3 (fun _ => ?_)
      clear hK K
      (try simp only [Act.put, List.setIfInBounds_toArray, List.set_cons_zero, List.set_cons_succ])
      refine wpAnyH_take (i := 19) (oi := ⟨some 133, Op.binOp BinOp.eql 4 (Operand.tmp 129) (Operand.tmp 132) 4, 4, _, _, some (12, true)⟩) (v := ?vz19) rfl (by kernel_rfl) (by kernel_rfl) (by kernel_rfl) (fun _ _ _ h => h) (Or.inl ⟨by rfl, ?hz19⟩) hS3 ?rz19
      case hz19 => (intro wz hSw; go_simp <;> with_reducible rfl)
      (try simp only [Act.put, List.setIfInBounds_toArray, List.set_cons_zero, List.set_cons_succ])
      refine wpAnyH_take (i := 20) (oi := ⟨some 134, Op.pick (Operand.tmp 126) (Operand.tmp 133) (Operand.const (Value.bool false)), 4, _, _, none⟩) (v := ?vz20) rfl (by kernel_rfl) (by kernel_rfl) (by kernel_rfl) (fun _ _ _ h => h) (Or.inl ⟨by rfl, ?hz20⟩) hS3 ?rz20
      case hz20 => (intro wz hSw; go_simp <;> with_reducible rfl)
      (try simp only [Act.put, List.setIfInBounds_toArray, List.set_cons_zero, List.set_cons_succ])
      refine wpAnyH_take (i := 21) (oi := ⟨some 135, Op.move (Operand.tmp 134), 4, _, _, none⟩) (v := ?vz21) rfl (by kernel_rfl) (by kernel_rfl) (by kernel_rfl) (fun _ _ _ h => h) (Or.inl ⟨by rfl, ?hz21⟩) hS3 ?rz21
      case hz21 => (intro wz hSw; go_simp <;> with_reducible rfl)
      (try simp only [Act.put, List.setIfInBounds_toArray, List.set_cons_zero, List.set_cons_succ])
      refine wpAnyH_take (i := 22) (oi := ⟨some 136, Op.load 31 (Operand.tmp 3), 31, _, _, some (21, true)⟩) (v := ?vz22) rfl (by kernel_rfl) (by kernel_rfl) (by kernel_rfl) (fun _ _ _ h => h) (Or.inl ⟨by rfl, ?hz22⟩) hS3 ?rz22
      case hz22 => (intro wz hSw; obtain ⟨d0, d1, d2, d3, d4, d5, d6, d7, d8, d9⟩ := oCn_cells (HBc.out wz (HV0.out.trans (hSw.mono HV0.out.size))); obtain ⟨e0, e1, e2, e3, e4, e5, e6, e7, e8, e9⟩ := oCn_cells (HBd.out wz (HV0.out.trans (hSw.mono HV0.out.size))); obtain ⟨k0, k1, k2, k3, k4, k5, k6, k7, k8, k9⟩ := oCn_cells (keep hSw HP9.out); go_simp <;> with_reducible rfl)
      (try simp only [Act.put, List.setIfInBounds_toArray, List.set_cons_zero, List.set_cons_succ])
      refine wpAnyH_take (i := 23) (oi := ⟨some 137, Op.load 31 (Operand.tmp 9), 31, _, _, some (21, true)⟩) (v := ?vz23) rfl (by kernel_rfl) (by kernel_rfl) (by kernel_rfl) (fun _ _ _ h => h) (Or.inl ⟨by rfl, ?hz23⟩) hS3 ?rz23
      case hz23 => (intro wz hSw; obtain ⟨d0, d1, d2, d3, d4, d5, d6, d7, d8, d9⟩ := oCn_cells (HBc.out wz (HV0.out.trans (hSw.mono HV0.out.size))); obtain ⟨e0, e1, e2, e3, e4, e5, e6, e7, e8, e9⟩ := oCn_cells (HBd.out wz (HV0.out.trans (hSw.mono HV0.out.size))); obtain ⟨k0, k1, k2, k3, k4, k5, k6, k7, k8, k9⟩ := oCn_cells (keep hSw HP9.out); go_simp <;> with_reducible rfl)
      (try simp only [Act.put, List.setIfInBounds_toArray, List.set_cons_zero, List.set_cons_succ])
      refine wpAnyH_ready (rs := [24]) (by kernel_rfl) (by simp) ?_
      refine AllReadyH.cons (o := ⟨some 138, Op.call { callee := Callee.value (Operand.func 19), args := #[Operand.tmp 136, Operand.tmp 137], argTypes := #[31, 31] }, 4, _, _, some (21, true)⟩) rfl (fun K hK => ?_) AllReadyH.nil
      go_simp
      (with_reducible refine (same_c c k9 ((HR.out.below (HV0.out.trans (hS3.mono HV0.out.size)) HBV.out).more (Nat.le_trans HBV.out HV0.out.size)) (HRk.out.below hS3 (Nat.le_refl _)) hS3.size HSm.out true ⟨fun _ => HK9.out.symm, fun _ => rfl⟩).mono ?_); rintro e u4 ⟨rfl, hB4⟩; have hS4 := bstep hB4 hS3
      refine hK.out _ _ hS4 (fun _ => ?_)
      clear hK K
      (try simp only [Act.put, List.setIfInBounds_toArray, List.set_cons_zero, List.set_cons_succ])
      refine wpAnyH_take (i := 25) (oi := ⟨some 139, Op.pick (Operand.tmp 135) (Operand.tmp 138) (Operand.const (Value.bool false)), 4, _, _, none⟩) (v := ?vz25) rfl (by kernel_rfl) (by kernel_rfl) (by kernel_rfl) (fun _ _ _ h => h) (Or.inl ⟨by rfl, ?hz25⟩) hS4 ?rz25
      case hz25 => (intro wz hSw; go_simp <;> with_reducible rfl)
      (try simp only [Act.put, List.setIfInBounds_toArray, List.set_cons_zero, List.set_cons_succ])
      refine wpAnyH_take (i := 26) (oi := ⟨some 6, Op.assign (Operand.tmp 139), 4, _, _, none⟩) (v := ?vz26) rfl (by kernel_rfl) (by kernel_rfl) (by kernel_rfl) (fun _ _ _ h => h) (Or.inl ⟨by rfl, ?hz26⟩) hS4 ?rz26
      case hz26 => (intro wz hSw; go_simp <;> with_reducible rfl)
      (try simp only [Act.put, List.setIfInBounds_toArray, List.set_cons_zero, List.set_cons_succ])
      refine wpAnyH_done (by kernel_rfl) ?_ _
      refine NoPanic.normal ?_
      have hSL := hS4
      go_wp2
      go_ret
      exact ⟨rfl, HB0.out.trans ((HV0.out.trans (hSL.mono HV0.out.size)).mono HBV.out)⟩


set_option maxRecDepth 100000 in
theorem lifted (os : Os) (started : os.Started) (H : Type) (enc : TypeId × Value → H) :
    ReturnsInHanded {} Try.checked os 3 .any (Rows.contentFindsSpec.pre6 enc Try.prog Try.f3 Rows.contentFindsRow.domain false) (Rows.contentFindsSpec.post enc Try.prog Try.f3 false true false false) := by
  refine returnsInHanded_of_change (C := Try.checked) own started (by kernel_rfl) Try.func3
    (ChangeSpec.witness6 (enc := enc) (C := Try.checked) false ⟨#[], #[.agg #[.slice none 0 0, .slice none 0 0, .slice none 0 0, .int .i64 0, .int .i64 0, .slice none 0 0, .int .i64 0, .int .i64 0, .int .i64 0, .int .i64 0], .agg #[.slice none 0 0, .slice none 0 0, .slice none 0 0, .int .i64 0, .int .i64 0, .slice none 0 0, .int .i64 0, .int .i64 0, .int .i64 0, .int .i64 0], .int .i64 0], []⟩ 8 (by kernel_rfl) (by kernel_rfl) (by kernel_rfl) (by kernel_rfl)) ?_
  intro W base args ds gs before hval0 hW hcnd _
  have hval : ∀ (j : Nat) t v, Try.f3.params[j]? = some t → args[j]? = some v → Value.okWide Try.prog W .any base t v := hval0
  have hW' := hW
  obtain ⟨p, q, hA0, hV, rfl, hfz, hnd⟩ := hW
  have hA : DataW.TrodAll enc Try.prog W 0 (fun _ => true) true Try.f3.params.toList args.toList ds p := hA0
  rw [Try.params3] at hA hval
  obtain ⟨v0, vs0, d0, ds0, p0, q0, hargs, rfl, rfl, h0, r0⟩ := trodAll_cons hA
  obtain ⟨v1, vs1, d1, ds1, p1, q1, rfl, rfl, rfl, h1, r1⟩ := trodAll_cons r0
  obtain ⟨v2, vs2, d2, ds2, p2, q2, rfl, rfl, rfl, h2, r2⟩ := trodAll_cons r1
  obtain ⟨rfl, rfl, rfl⟩ := trodAll_nil r2
  obtain rfl : args = #[v0, v1, v2] := by cases args; simp_all
  obtain ⟨rfl, rfl⟩ := trodVars_none hV
  clear hA0 hval0
  have hlt0 : ∀ x ∈ p0, x.block < W.heap.size := fun x hx => hW'.lt x (by simp [hx])
  have hk0 := h0
  obtain ⟨c0, rfl, hr0, hcap0⟩ := Open.viewC (hval 0 31 v0 rfl rfl) h0
  have hlt1 : ∀ x ∈ p1, x.block < W.heap.size := fun x hx => hW'.lt x (by simp [hx])
  have hk1 := h1
  obtain ⟨c1, rfl, hr1, hcap1⟩ := Open.viewC (hval 1 31 v1 rfl rfl) h1
  obtain ⟨a2, rfl, rfl, rfl, w2⟩ := open_int Try.underlying3 (hval 2 3 v2 rfl rfl) h2
  simp only [List.append_nil] at hW'
  refine (walk W c0 hr0 hcap0 c1 hr1 hcap1 a2 (Open.fits_of w2)).mono fun e W' ⟨he, hg⟩ => ?_
  subst he
  exact ⟨_, rfl, _, _, _, [], _, [], hW', (trodAll_cons_mk (shut_bool Try.underlying4 _) trodAll_mk0), (trodAll_cons_mk (Below.trod Open.laidOut (by kernel_rfl) (of_decide_eq_true (by kernel_rfl)) hk0 hg hlt0) (trodAll_cons_mk (Below.trod Open.laidOut (by kernel_rfl) (of_decide_eq_true (by kernel_rfl)) hk1 hg hlt1) (trodAll_cons_mk (shut_int Try.underlying3 w2) trodAll_mk0))), rfl, hg.frame _, fun h => by cases h⟩

theorem over : Rows.contentFindsRow.holds Try.pinned (OpenSpec.ofChange Rows.contentFindsSpec) :=
  OpenClaim.holds_of_wide 3 Try.f3 rfl rfl rfl rfl rfl rfl rfl ⟨rfl, rfl, rfl, rfl, rfl⟩ rfl rfl rfl rfl rfl (by kernel_rfl) Try.func3 (by kernel_rfl)
    (of_decide_eq_true (by kernel_rfl)) (by unfold Func.isWrapper; first | (rw [if_pos (by decide +kernel)]; kernel_rfl) | (rw [if_neg (by decide +kernel)]; exact ⟨rfl, rfl⟩))
    (fun os started H enc _ => lifted os started H enc)

/-- The given statement. -/
theorem proved : Rows.ContentFindsSaid :=
  over
#print axioms proved
end Go.Proofs.Ytekpbdjnfobobaa.contentFinds
