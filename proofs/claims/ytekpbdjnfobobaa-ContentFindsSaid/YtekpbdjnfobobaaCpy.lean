/-
  Contract of Copy: alike, in new memory.
-/
import Derived.Test.YtekpbdjnfobobaaCro
namespace Go.Proofs.Ytekpbdjnfobobaa.Con
open Go.RowKit Go.Maps

abbrev zcCn : Obj := .cells #[.slice none 0 0, .slice none 0 0, .slice none 0 0, .int .i64 0, .int .i64 0, .slice none 0 0, .int .i64 0, .int .i64 0, .int .i64 0, .int .i64 0] 31
/-- Content that was copied. -/
def CpC (w : World) (c : Cn) (e : Ending) (w' : World) : Prop := ∃ k : Cn, e = .returned (cnv k) ∧ Hid (k.pl = c.pl) ∧ Hid (PC w' w.heap.size k) ∧ Below w.heap.size w w'

set_option maxRecDepth 40000 in
set_option maxHeartbeats 16000000 in
theorem copy_c {w : World} {B : Nat} (c : Cn) (hr : RC w B c) (hB : B ≤ w.heap.size) (hs : Sm c) : Calls Try.prog 16 #[cnv c] w (CpC w c) := by
  have h1 := hs.abs; have h2 := hs.aus; have h3 := hs.fos; have h4 := hs.wls
  have hX : Below w.heap.size w ((w.alloc (oCn c)).alloc zcCn) := by go_grown
  have hn0 : ((w.alloc (oCn c)).alloc zcCn).heap[w.heap.size]? = some (oCn c) := by
    have h := heap_alloc_new w (oCn c)
    rw [((Below.refl _ (w.alloc (oCn c))).alloc (Nat.le_refl _) zcCn).block _ (by simp)]; exact h
  have hn1 : ((w.alloc (oCn c)).alloc zcCn).heap[w.heap.size + 1]? = some zcCn := by have := heap_alloc_new (w.alloc (oCn c)) zcCn; simpa using this
  have hsz : ((w.alloc (oCn c)).alloc zcCn).heap.size = w.heap.size + 1 + 1 := by simp
  have HC1 := Lib.hid (crows_ab (c := c.aC) rfl (hr.abs.below hX hB) (fun a ha => (hr.effs a ha).below hX hB) hs.effs (Nat.le_trans hB hX.size) (by omega))
  have HC2 : Hid (∀ V, Below w.heap.size w V → Calls Try.prog 36 #[.slice c.uA c.au.length c.uC] V (Cpd au V c.au c.au.length)) := Lib.hid (fun V hV => clone_au c.uA c.uC c.au _ rfl V B (hr.aus.below hV hB) (Nat.le_trans hB hV.size) (by omega))
  have HC3 : Hid (∀ V, Below w.heap.size w V → Calls Try.prog 37 #[.slice c.fA c.fo.length c.fC, .func (.func 34) #[] #[]] V (CrFo V c.fo c.fo.length)) := Lib.hid (fun V hV => crows_fo rfl (hr.fos.below hV hB) (fun a ha => (hr.scrs a ha).below hV hB) (fun a ha => (hr.hors a ha).below hV hB) hs.scrs hs.hors (Nat.le_trans hB hV.size) (by omega))
  have HC4 : Hid (∀ V, Below w.heap.size w V → Calls Try.prog 38 #[.slice c.gA c.wl.length c.gC] V (Cpd bo V c.wl c.wl.length)) := Lib.hid (fun V hV => clone_bo c.gA c.gC c.wl _ rfl V B (rb_rw (hr.wls.below hV hB)) (Nat.le_trans hB hV.size) (by omega))
  have HX := Lib.hid hX; have HN0 := Lib.hid hn0; have HN1 := Lib.hid hn1; have HS := Lib.hid hsz
  clear hr hX hn0 hn1 hsz hs h1 h2 h3 h4
  go_enter Try.func16, Try.ntmps16
  go_wp2_with (first
    | ((with_reducible refine HC1.out.mono ?_); rintro e w1 ⟨A1, c1, l1, rfl, HL1, HE1, HP1, HQ1, hB1⟩; have hV1 : Below w.heap.size w w1 := HX.out.trans (hB1.mono HX.out.size); have z0 := blk_cell HN0.out hB1 (by rw [HS.out]; omega); have y0 := blk_froz HN0.out hB1 (by rw [HS.out]; omega); have z1 := blk_cell HN1.out hB1 (by rw [HS.out]; omega); have y1 := blk_froz HN1.out hB1 (by rw [HS.out]; omega); have hs1 : w.heap.size + 1 < w1.heap.size := Nat.lt_of_lt_of_le (by rw [HS.out]; omega) hB1.size)
    | ((with_reducible refine (HC2.out _ (by go_grown : Below w.heap.size w _)).mono ?_); rintro e w2 ⟨A2, c2, rfl, HP2, hB2⟩; have hV2 : Below w.heap.size w w2 := bstep hB2 (by go_grown); have z2 := fun o => hB2.cell (p := ⟨w.heap.size, o, none⟩) (by go_size); have y2 := fun o => hB2.frozen (p := ⟨w.heap.size, o, none⟩) (by go_size); have z3 := fun o => hB2.cell (p := ⟨w.heap.size + 1, o, none⟩) (by go_size); have y3 := fun o => hB2.frozen (p := ⟨w.heap.size + 1, o, none⟩) (by go_size); have hs2 : w.heap.size + 1 < w2.heap.size := Nat.lt_of_lt_of_le (by simpa using hs1) hB2.size)
    | ((with_reducible refine (HC3.out _ (by go_grown : Below w.heap.size w _)).mono ?_); rintro e w3 ⟨A3, c3, l3, rfl, HL3, HE3, HP3, HQ3, hB3⟩; have hV3 : Below w.heap.size w w3 := bstep hB3 (by go_grown); have z4 := fun o => hB3.cell (p := ⟨w.heap.size, o, none⟩) (by go_size); have y4 := fun o => hB3.frozen (p := ⟨w.heap.size, o, none⟩) (by go_size); have z5 := fun o => hB3.cell (p := ⟨w.heap.size + 1, o, none⟩) (by go_size); have y5 := fun o => hB3.frozen (p := ⟨w.heap.size + 1, o, none⟩) (by go_size); have hs3 : w.heap.size + 1 < w3.heap.size := Nat.lt_of_lt_of_le (by simpa using hs2) hB3.size)
    | ((with_reducible refine (HC4.out _ (by go_grown : Below w.heap.size w _)).mono ?_); rintro e w4 ⟨A4, c4, rfl, HP4, hB4⟩; have hV4 : Below w.heap.size w w4 := bstep hB4 (by go_grown); have z6 := fun o => hB4.cell (p := ⟨w.heap.size, o, none⟩) (by go_size); have y6 := fun o => hB4.frozen (p := ⟨w.heap.size, o, none⟩) (by go_size); have z7 := fun o => hB4.cell (p := ⟨w.heap.size + 1, o, none⟩) (by go_size); have y7 := fun o => hB4.frozen (p := ⟨w.heap.size + 1, o, none⟩) (by go_size); have hs4 : w.heap.size + 1 < w4.heap.size := Nat.lt_of_lt_of_le (by simpa using hs3) hB4.size))
  refine bodyPost_ret (by simp [results, Try.results16, go_sem, z7, z5, z3, z1]; try rfl) rfl ?_
  have hs := HS.out
  have p1 := HP1.out; have q1 := HQ1.out; have p2 := HP2.out.pw; have p3 := HP3.out; have q3 := HQ3.out; have p4 := HP4.out.pw
  rw [hs] at p1 q1
  refine ⟨⟨A1, c1, l1, A2, c2, c.au, A3, c3, l3, c.W, c.H, A4, c4, c.wl, c.dx, c.dy, c.lx, c.ly⟩, by have := HL1.out; have := HL3.out; simp_all, Lib.hid ?_, Lib.hid ?_, by go_grown⟩
  · rw [Cn.pl_iff]
    exact ⟨HE1.out, rfl, HE3.out, rfl, rfl, rfl, rfl, rfl, rfl, rfl⟩
  · have s2 : w.heap.size + 1 + 1 ≤ (w1.setCell ⟨w.heap.size, 0, none⟩ (.slice A1 c.ab.length c1)).heap.size := by simp; omega
    have s3 : w.heap.size + 1 + 1 ≤ (w2.setCell ⟨w.heap.size, 1, none⟩ (.slice A2 c.au.length c2)).heap.size := by simp; omega
    have s4 : w.heap.size + 1 + 1 ≤ (w3.setCell ⟨w.heap.size, 2, none⟩ (.slice A3 c.fo.length c3)).heap.size := by simp; omega
    have to2 : ∀ {α : Type} {E : El α} {A : Option Addr} {l : List α}, PW E w1 (w.heap.size + 1 + 1) A l → PW E w2 (w.heap.size + 1 + 1) A l := fun h => (h.set1 (a := ⟨w.heap.size, 0, none⟩) (by simp; omega) _).of hB2
    have to3 : ∀ {α : Type} {E : El α} {A : Option Addr} {l : List α}, PW E w2 (w.heap.size + 1 + 1) A l → PW E w3 (w.heap.size + 1 + 1) A l := fun h => (h.set1 (a := ⟨w.heap.size, 1, none⟩) (by simp; omega) _).of hB3
    have to4 : ∀ {α : Type} {E : El α} {A : Option Addr} {l : List α}, PW E w3 (w.heap.size + 1 + 1) A l → PW E w4 (w.heap.size + 1 + 1) A l := fun h => (h.set1 (a := ⟨w.heap.size, 2, none⟩) (by simp; omega) _).of hB4
    have r1 := to4 (to3 (to2 p1))
    have e1 := fun a ha => to4 (to3 (to2 (q1 a ha)))
    have r2 := to4 (to3 (p2.mono s2))
    have r3 := to4 (p3.mono s3)
    have e3 := fun a ha => to4 ((q3 a ha).1.mono s3)
    have e4 := fun a ha => to4 ((q3 a ha).2.mono s3)
    have r4 := p4.mono s4
    clear to2 to3 to4 p1 q1 p2 p3 q3 p4
    refine ⟨?_, ?_, ?_, ?_, ?_, ?_, ?_⟩
    case refine_5 => exact fun a ha => (by (refine PW.mono (N := w.heap.size + 1 + 1) ?_ (by omega); repeat (refine PW.set1 ?_ (by first | omega | (simp; done) | (simp; omega)) _)); exact e1 a ha)
    case refine_6 => exact fun a ha => (by (refine PW.mono (N := w.heap.size + 1 + 1) ?_ (by omega); repeat (refine PW.set1 ?_ (by first | omega | (simp; done) | (simp; omega)) _)); exact e3 a ha)
    case refine_7 => exact fun a ha => (by (refine PW.mono (N := w.heap.size + 1 + 1) ?_ (by omega); repeat (refine PW.set1 ?_ (by first | omega | (simp; done) | (simp; omega)) _)); exact e4 a ha)
    all_goals (refine PW.mono (N := w.heap.size + 1 + 1) ?_ (by omega); repeat (refine PW.set1 ?_ (by first | omega | (simp; done) | (simp; omega)) _))
    · exact r1
    · exact r2
    · exact r3
    · exact r4

end Go.Proofs.Ytekpbdjnfobobaa.Con
