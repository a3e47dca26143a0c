/-
  Contracts of the copies of one ability and of one foe, the program's and the document's: the same with rows in new memory.
-/
import Derived.Test.YtpjenkgimkndaaaGreatCln
import Derived.Test.YtpjenkgimkndaaaGreatFnd
namespace Go.Proofs.YtpjenkgimkndaaaGreat.Con
open Go.RowKit Go.Maps

abbrev Ab.re (a : Ab) (A : Option Addr) (c : Nat) : Ab := { a with ea := A, ec := c }
abbrev Fo.re (a : Fo) (A : Option Addr) (c : Nat) (A2 : Option Addr) (c2 : Nat) : Fo := { a with sa := A, sc := c, ha := A2, hc := c2 }
theorem Ab.re_pl (a : Ab) (A : Option Addr) (c : Nat) : (a.re A c).pl = a.pl := rfl
theorem Fo.re_pl (a : Fo) (A : Option Addr) (c : Nat) (A2 : Option Addr) (c2 : Nat) : (a.re A c A2 c2).pl = a.pl := rfl
theorem OW.set {α : Type} {E : El α} {w : World} {base : Nat} {v : Value} {l : List α} (h : OW E w base v l) {a : Addr} (ha : a.block < base) (u : Value) : OW E (w.setCell a u) base v l := ownsRow_setCell_below h ha u
/-- What a world owns stays so where only what lies behind it is turned. -/
theorem OW.of2 {α : Type} {E : El α} {w w' : World} {base : Nat} {v : Value} {l : List α} (h : OW E w base v l) {o : Obj} (hb : Below w.heap.size (w.alloc o) w') (_ : True) : OW E w' base v l := by
  have h1 : Below w.heap.size w (w.alloc o) := (Below.refl _ _).alloc (Nat.le_refl _) _
  exact OW.of h (h1.trans hb)
/-- One ability that was copied. -/
def CpA (w : World) (a : Ab) (e : Ending) (w' : World) : Prop := ∃ A' c', e = .returned (abv (a.re A' c')) ∧ Hid (OW ef w' w.heap.size (.slice A' a.eff.length c') a.eff) ∧ Below w.heap.size w w'
def CpF (w : World) (a : Fo) (e : Ending) (w' : World) : Prop := ∃ A' c' A2 c2, e = .returned (fov (a.re A' c' A2 c2)) ∧ Hid (OW ln w' w.heap.size (.slice A' a.script.length c') a.script) ∧ Hid (OW pz w' w.heap.size (.slice A2 a.hoard.length c2) a.hoard) ∧ Below w.heap.size w w'


set_option maxRecDepth 20000 in
set_option maxHeartbeats 4000000 in
theorem rcopyAb {w : World} {B : Nat} (a : Ab) (hr : RW ef w B a.ea a.eff) (hB : B ≤ w.heap.size) (hl : (a.eff.length : Int) ≤ 50000) : Calls Tryz.prog 22 #[abv a] w (CpA w a) := by
  have hX : Below w.heap.size w (((w.alloc (oAb a)).alloc zcAb).alloc (.cells #[] 71)) := by go_grown
  have hn0 : (((w.alloc (oAb a)).alloc zcAb).alloc (.cells #[] 71)).heap[w.heap.size]? = some (oAb a) := by
    have h := heap_alloc_new w (oAb a)
    rw [(((Below.refl _ (w.alloc (oAb a))).alloc (Nat.le_refl _) zcAb).alloc (by simp) (.cells #[] 71)).block _ (by simp)]; exact h
  have hn1 : (((w.alloc (oAb a)).alloc zcAb).alloc (.cells #[] 71)).heap[w.heap.size + 1]? = some zcAb := by
    have h := heap_alloc_new (w.alloc (oAb a)) zcAb
    rw [((Below.refl _ ((w.alloc (oAb a)).alloc zcAb)).alloc (Nat.le_refl _) (.cells #[] 71)).block _ (by first | (simp; done) | (simp; omega))]; simpa using h
  have hsz : (((w.alloc (oAb a)).alloc zcAb).alloc (.cells #[] 71)).heap.size = w.heap.size + 1 + 1 + 1 := by simp
  have HO0 : Hid (OW ef (((w.alloc (oAb a)).alloc zcAb).alloc (.cells #[] 71)) (w.heap.size + 1 + 1) (.slice (some ⟨w.heap.size + 1 + 1, 0, none⟩) 0 0) []) := Lib.hid (by
    have h := OW.room ef ((w.alloc (oAb a)).alloc zcAb)
    rw [show ((w.alloc (oAb a)).alloc zcAb).heap.size = w.heap.size + 1 + 1 by simp] at h
    exact h)
  have HR := Lib.hid (hr.below hX hB)
  have hBx : B ≤ (((w.alloc (oAb a)).alloc zcAb).alloc (.cells #[] 71)).heap.size := Nat.le_trans hB hX.size
  have HL : Hid (([] : List Ef).length + a.eff.length ≤ 1000000) := Lib.hid (by simp; omega)
  have HX := Lib.hid hX; have HN0 := Lib.hid hn0; have HN1 := Lib.hid hn1; have HS := Lib.hid hsz
  clear hr hX hn0 hn1 hsz hBx
  go_enter Tryz.func22, Tryz.ntmps22
  go_wp2_with (at_builtin; refine wpList_app ef rfl 50 rfl (.tmp 3) (.tmp 5) rfl (w.heap.size + 1 + 1) B (.slice (some ⟨w.heap.size + 1 + 1, 0, none⟩) 0 0) [] a.eff a.ea a.ec a.eff.length rfl rfl rfl HO0.out HR.out HL.out (by simp) ?_; intro A2 c2 w1 lm HLM HO2 HS2 HB2; have hl2 : lm = a.eff := (by have := HLM.out; simpa using this); subst hl2; have hB1 : Below (w.heap.size + 1 + 1) (((w.alloc (oAb a)).alloc zcAb).alloc (.cells #[] 71)) w1 := ((Below.refl _ _).grown HS2.out (by rw [HS.out]; omega) (fun j hj => by simp [Value.ownBlock] at hj; omega)); have hV1 : Below w.heap.size w w1 := HX.out.trans (hB1.mono (by omega)); have z0 := blk_cell HN0.out hB1 (by omega); have y0 := blk_froz HN0.out hB1 (by omega); have z1 := blk_cell HN1.out hB1 (by omega); have y1 := blk_froz HN1.out hB1 (by omega))
  refine bodyPost_ret (by simp [results, Tryz.results22, go_sem, z1]; try rfl) rfl ?_
  refine ⟨A2, c2, rfl, Lib.hid ?_, by go_grown⟩
  refine OW.mono (base := w.heap.size + 1 + 1) ?_ (by omega)
  repeat (refine OW.set ?_ (by first | omega | (simp; done) | (simp; omega)) _)
  exact HO2.out

set_option maxRecDepth 20000 in
set_option maxHeartbeats 4000000 in
theorem rcopyFo {w : World} {B : Nat} (a : Fo) (hr : RW ln w B a.sa a.script) (hh : RW pz w B a.ha a.hoard) (hB : B ≤ w.heap.size) (hl : (a.script.length : Int) ≤ 50000) (hlh : (a.hoard.length : Int) ≤ 50000) : Calls Tryz.prog 23 #[fov a] w (CpF w a) := by
  have hX : Below w.heap.size w (((w.alloc (oFo a)).alloc zcFo).alloc (.cells #[] 73)) := by go_grown
  have hn0 : (((w.alloc (oFo a)).alloc zcFo).alloc (.cells #[] 73)).heap[w.heap.size]? = some (oFo a) := by
    have h := heap_alloc_new w (oFo a)
    rw [(((Below.refl _ (w.alloc (oFo a))).alloc (Nat.le_refl _) zcFo).alloc (by simp) (.cells #[] 73)).block _ (by simp)]; exact h
  have hn1 : (((w.alloc (oFo a)).alloc zcFo).alloc (.cells #[] 73)).heap[w.heap.size + 1]? = some zcFo := by
    have h := heap_alloc_new (w.alloc (oFo a)) zcFo
    rw [((Below.refl _ ((w.alloc (oFo a)).alloc zcFo)).alloc (Nat.le_refl _) (.cells #[] 73)).block _ (by first | (simp; done) | (simp; omega))]; simpa using h
  have hsz : (((w.alloc (oFo a)).alloc zcFo).alloc (.cells #[] 73)).heap.size = w.heap.size + 1 + 1 + 1 := by simp
  have HO0 : Hid (OW ln (((w.alloc (oFo a)).alloc zcFo).alloc (.cells #[] 73)) (w.heap.size + 1 + 1) (.slice (some ⟨w.heap.size + 1 + 1, 0, none⟩) 0 0) []) := Lib.hid (by
    have h := OW.room ln ((w.alloc (oFo a)).alloc zcFo)
    rw [show ((w.alloc (oFo a)).alloc zcFo).heap.size = w.heap.size + 1 + 1 by simp] at h
    exact h)
  have HPZ : Hid (∀ (V : World) (p : Addr) (u : Value), OW pz ((V.setCell p u).alloc (.cells #[] 75)) V.heap.size (.slice (some ⟨V.heap.size, 0, none⟩) 0 0) []) := Lib.hid (fun V p u => by
    have h := OW.room pz (V.setCell p u)
    rw [show (V.setCell p u).heap.size = V.heap.size by simp] at h
    exact h)
  have HR := Lib.hid (hr.below hX hB)
  have HL : Hid (([] : List Ln).length + a.script.length ≤ 1000000) := Lib.hid (by simp; omega)
  have HL2 : Hid (([] : List Pz).length + a.hoard.length ≤ 1000000) := Lib.hid (by simp; omega)
  have HX := Lib.hid hX; have HN0 := Lib.hid hn0; have HN1 := Lib.hid hn1; have HS := Lib.hid hsz; have HH := Lib.hid hh
  clear hr hX hn0 hn1 hsz hh
  go_enter Tryz.func23, Tryz.ntmps23
  go_wp2_with (first
    | (at_builtin; refine wpList_app ln rfl 53 rfl (.tmp 3) (.tmp 5) rfl (w.heap.size + 1 + 1) B (.slice (some ⟨w.heap.size + 1 + 1, 0, none⟩) 0 0) [] a.script a.sa a.sc a.script.length rfl rfl rfl HO0.out HR.out HL.out (by simp) ?_; intro A2 c2 w1 lm HLM HO2 HS2 HB2; have hl2 : lm = a.script := (by have := HLM.out; simpa using this); subst hl2; have hB1 : Below (w.heap.size + 1 + 1) (((w.alloc (oFo a)).alloc zcFo).alloc (.cells #[] 73)) w1 := ((Below.refl _ _).grown HS2.out (by rw [HS.out]; omega) (fun j hj => by simp [Value.ownBlock] at hj; omega)); have hV1 : Below w.heap.size w w1 := HX.out.trans (hB1.mono (by omega)); have z0 := blk_cell HN0.out hB1 (by omega); have y0 := blk_froz HN0.out hB1 (by omega); have z1 := blk_cell HN1.out hB1 (by omega); have y1 := blk_froz HN1.out hB1 (by omega); have hs1 : w.heap.size + 1 + 1 ≤ w1.heap.size := Nat.le_trans (by rw [HS.out]; omega) hB1.size; have hs00 : w.heap.size < w1.heap.size := (by omega); have hs01 : w.heap.size + 1 < w1.heap.size := (by omega))
    | (at_builtin; refine wpList_app pz rfl 54 rfl (.tmp 8) (.tmp 10) rfl w1.heap.size B (.slice (some ⟨w1.heap.size, 0, none⟩) 0 0) [] a.hoard a.ha a.hc a.hoard.length rfl rfl rfl (HPZ.out _ _ _) (HH.out.below (by go_grown : Below w.heap.size w _) hB) HL2.out (by simp) ?_; intro A3 c3 w2 lm3 HLM3 HO3 HS3 HB3; have hl3 : lm3 = a.hoard := (by have := HLM3.out; simpa using this); subst hl3; have hB4 := (Below.refl w1.heap.size _).grown HS3.out (by simp) (fun j hj => by simp [Value.ownBlock] at hj; omega); have hV2 : Below w.heap.size w w2 := Below.trans (by go_grown) (hB4.mono (by omega)); have z2 := fun o => hB4.cell (p := ⟨w.heap.size, o, none⟩) (by go_size); have y2 := fun o => hB4.frozen (p := ⟨w.heap.size, o, none⟩) (by go_size); have z3 := fun o => hB4.cell (p := ⟨w.heap.size + 1, o, none⟩) (by go_size); have y3 := fun o => hB4.frozen (p := ⟨w.heap.size + 1, o, none⟩) (by go_size)))
  refine bodyPost_ret (by simp [results, Tryz.results23, go_sem, z3, z1, hs01]; try rfl) rfl ?_
  have h1 := HO2.out
  have h3 : OW ln w2 (w.heap.size + 1 + 1) (.slice A2 a.script.length c2) a.script := by
    exact OW.of2 (OW.set h1 (a := ⟨w.heap.size, 5, none⟩) (by simp; omega) (.slice A2 a.script.length c2)) (by simpa using hB4) trivial
  have h4 := OW.mono HO3.out (base' := w.heap.size + 1 + 1) (by omega)
  refine ⟨A2, c2, A3, c3, rfl, Lib.hid ?_, Lib.hid ?_, by go_grown⟩
  · refine OW.mono (base := w.heap.size + 1 + 1) ?_ (by omega)
    repeat (refine OW.set ?_ (by first | omega | (simp; done) | (simp; omega)) _)
    exact h3
  · refine OW.mono (base := w.heap.size + 1 + 1) ?_ (by omega)
    repeat (refine OW.set ?_ (by first | omega | (simp; done) | (simp; omega)) _)
    exact h4

end Go.Proofs.YtpjenkgimkndaaaGreat.Con
