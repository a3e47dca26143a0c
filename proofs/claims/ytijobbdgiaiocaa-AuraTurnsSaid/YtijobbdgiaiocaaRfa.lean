/-
  Contract of the document's own Ability: the first one of that Id, copied, or a zero one.
-/
import Derived.Test.YtijobbdgiaiocaaAul
namespace Go.Proofs.Ytijobbdgiaiocaa.Con
open Go.RowKit Go.Maps

abbrev Ab.re (a : Ab) (A : Option Addr) (c : Nat) : Ab := { a with ea := A, ec := c }
theorem OW.set {α : Type} {E : El α} {w : World} {base : Nat} {v : Value} {l : List α} (h : OW E w base v l) {a : Addr} (ha : a.block < base) (u : Value) : OW E (w.setCell a u) base v l := ownsRow_setCell_below h ha u
/-- One ability that was copied. -/
def CpAb (w : World) (a : Ab) (e : Ending) (w' : World) : Prop := ∃ A' c', e = .returned (abv (a.re A' c')) ∧ Hid (OW ef w' w.heap.size (.slice A' a.eff.length c') a.eff) ∧ Below w.heap.size w w'
theorem rw_rb {w : World} {B : Nat} {A : Option Addr} {l : List Bool} (h : RW bo w B A l) : RB w B A l := by
  rcases h with rfl | ⟨b, off, hA, hlt, hc⟩
  · exact .inl rfl
  · refine .inr ⟨b, off, hA, hlt, fun i x hx => ?_⟩
    have := hc i x hx 0 (.bool x) rfl
    simpa [bo] using this
set_option maxRecDepth 20000 in
set_option maxHeartbeats 4000000 in
theorem rcopyAb {w : World} {B : Nat} (a : Ab) (hr : RW ef w B a.ea a.eff) (hB : B ≤ w.heap.size) (hl : (a.eff.length : Int) ≤ 50000) : Calls Try.prog 109 #[abv a] w (CpAb w a) := by
  have hX : Below w.heap.size w (((w.alloc (oAb a)).alloc zcAb).alloc (.cells #[] 112)) := by go_grown
  have hn0 : (((w.alloc (oAb a)).alloc zcAb).alloc (.cells #[] 112)).heap[w.heap.size]? = some (oAb a) := by
    have h := heap_alloc_new w (oAb a)
    rw [(((Below.refl _ (w.alloc (oAb a))).alloc (Nat.le_refl _) zcAb).alloc (by simp) (.cells #[] 112)).block _ (by simp)]; exact h
  have hn1 : (((w.alloc (oAb a)).alloc zcAb).alloc (.cells #[] 112)).heap[w.heap.size + 1]? = some zcAb := by
    have h := heap_alloc_new (w.alloc (oAb a)) zcAb
    rw [((Below.refl _ ((w.alloc (oAb a)).alloc zcAb)).alloc (Nat.le_refl _) (.cells #[] 112)).block _ (by first | (simp; done) | (simp; omega))]; simpa using h
  have hsz : (((w.alloc (oAb a)).alloc zcAb).alloc (.cells #[] 112)).heap.size = w.heap.size + 1 + 1 + 1 := by simp
  have HO0 : Hid (OW ef (((w.alloc (oAb a)).alloc zcAb).alloc (.cells #[] 112)) (w.heap.size + 1 + 1) (.slice (some ⟨w.heap.size + 1 + 1, 0, none⟩) 0 0) []) := Lib.hid (by
    have h := OW.room ef ((w.alloc (oAb a)).alloc zcAb)
    rw [show ((w.alloc (oAb a)).alloc zcAb).heap.size = w.heap.size + 1 + 1 by simp] at h
    exact h)
  have HR := Lib.hid (hr.below hX hB)
  have hBx : B ≤ (((w.alloc (oAb a)).alloc zcAb).alloc (.cells #[] 112)).heap.size := Nat.le_trans hB hX.size
  have HL : Hid (([] : List Ef).length + a.eff.length ≤ 1000000) := Lib.hid (by simp; omega)
  have HX := Lib.hid hX; have HN0 := Lib.hid hn0; have HN1 := Lib.hid hn1; have HS := Lib.hid hsz
  clear hr hX hn0 hn1 hsz hBx
  go_enter Try.func109, Try.ntmps109
  go_wp2_with (at_builtin; refine wpList_app ef rfl 60 rfl (.tmp 3) (.tmp 5) rfl (w.heap.size + 1 + 1) B (.slice (some ⟨w.heap.size + 1 + 1, 0, none⟩) 0 0) [] a.eff a.ea a.ec a.eff.length rfl rfl rfl HO0.out HR.out HL.out (by simp) ?_; intro A2 c2 w1 lm HLM HO2 HS2 HB2; have hl2 : lm = a.eff := (by have := HLM.out; simpa using this); subst hl2; have hB1 : Below (w.heap.size + 1 + 1) (((w.alloc (oAb a)).alloc zcAb).alloc (.cells #[] 112)) w1 := ((Below.refl _ _).grown HS2.out (by rw [HS.out]; omega) (fun j hj => by simp [Value.ownBlock] at hj; omega)); have hV1 : Below w.heap.size w w1 := HX.out.trans (hB1.mono (by omega)); have z0 := blk_cell HN0.out hB1 (by omega); have y0 := blk_froz HN0.out hB1 (by omega); have z1 := blk_cell HN1.out hB1 (by omega); have y1 := blk_froz HN1.out hB1 (by omega))
  refine bodyPost_ret (by simp [results, Try.results109, go_sem, z1]; try rfl) rfl ?_
  refine ⟨A2, c2, rfl, Lib.hid ?_, by go_grown⟩
  refine OW.mono (base := w.heap.size + 1 + 1) ?_ (by omega)
  repeat (refine OW.set ?_ (by first | omega | (simp; done) | (simp; omega)) _)
  exact HO2.out

theorem fd_ab {w : World} {B : Nat} {c : Cn} (hr : RC w B c) (hs : Sm c) {id : Int} {a : Ab} {x : Bool} (h : FD Ab.id zAb c.ab id a x) : RW ef w B a.ea a.eff ∧ (a.eff.length : Int) ≤ 50000 := by
  rcases h with ⟨_, i, h1, _⟩ | ⟨_, h2, _⟩
  · have := List.mem_of_getElem? h1; exact ⟨hr.effs a this, hs.effs a this⟩
  · subst h2; exact ⟨.inl rfl, by simp [zAb]⟩
def AnA (w : World) (a : Ab) (x : Bool) (e : Ending) (w' : World) : Prop := ∃ A' c', e = .returned (.tuple #[abv (a.re A' c'), .bool x]) ∧ Hid (OW ef w' w.heap.size (.slice A' a.eff.length c') a.eff) ∧ Below w.heap.size w w'
set_option maxRecDepth 20000 in
set_option maxHeartbeats 4000000 in
theorem rability_any {w : World} {B : Nat} {c : Cn} (hr : RC w B c) (hB : B ≤ w.heap.size) (hs : Sm c) (id : Int) (a : Ab) (x : Bool) (hf : FD Ab.id zAb c.ab id a x) : Calls Try.prog 102 #[cnv c, .int .i64 id] w (AnA w a x) := by
  have hl : (c.ab.length : Int) ≤ 1000000 := by have := hs.abs; omega
  obtain ⟨he, hle⟩ := fd_ab hr hs hf
  have hX : Below w.heap.size w ((w.alloc (oCn c)).alloc zcAb) := by go_grown
  have hn1 : ((w.alloc (oCn c)).alloc zcAb).heap[w.heap.size + 1]? = some zcAb := by have := heap_alloc_new (w.alloc (oCn c)) zcAb; simpa using this
  have hsz : ((w.alloc (oCn c)).alloc zcAb).heap.size = w.heap.size + 1 + 1 := by simp
  have hA := (at_cn w c).of (w' := (w.alloc (oCn c)).alloc zcAb) (B := (w.alloc (oCn c)).heap.size) (by go_grown) (by simp)
  have HR := Lib.hid (hr.abs.below hX hB); have HF := Lib.hid hf
  have HX := Lib.hid hX; have HN1 := Lib.hid hn1; have HS := Lib.hid hsz; have HA := Lib.hid hA
  have HE0 := Lib.hid (he.below hX hB); clear he
  clear hr hs hf hX hn1 hsz hA
  go_enter Try.func102, Try.ntmps102
  go_wp2
  generalize (w.alloc (oCn c)).alloc zcAb = V at *
  go_loopg [6] c.ab.length (fun m s6 wr => ∃ k : Nat, k ≤ c.ab.length ∧ m = c.ab.length - k ∧ s6 = .int .i64 (k : Int) ∧ Hid (wr = V) ∧ Hid (∀ j y, j < k → c.ab[j]? = some y → Ab.id y ≠ id))
  case atStart => exact ⟨0, by omega, rfl, rfl, Lib.hid rfl, Lib.hid (fun j _ hj => by omega)⟩
  case round =>
    obtain ⟨k, hk, rfl, rfl, HW, HM⟩ := hrel
    have hwV : V = wr := HW.out.symm
    subst hwV
    obtain ⟨d0, d1, d2, d3, d4, d5, d6, d7, d8, d9⟩ := HA.out.ten
    have z1 := blk_cell HN1.out (Below.refl V.heap.size V) (by rw [HS.out]; omega)
    have y1 := blk_froz HN1.out (Below.refl V.heap.size V) (by rw [HS.out]; omega)
    by_cases hkn : k < c.ab.length
    · have hkl' : (k : Int) < c.ab.length := by omega
      obtain ⟨b, hb⟩ : ∃ b, c.ab[k]? = some b := ⟨_, List.getElem?_eq_getElem hkn⟩
      obtain ⟨p, off, hA, hpl, c0, c1, c2, c3, c4, c5, c6, c7⟩ := rowAb HR.out hb (Below.refl V.heap.size V) (by rw [HS.out]; omega)
      rw [hA] at d0
      have HBk := Lib.hid hb
      clear hb hA
      by_cases he : b.id = id
      · have HE := Lib.hid he
        have he' : (b.id == id) = true := by simpa using he
        clear he
        obtain ⟨q1, q2⟩ := fd_hit HF.out HBk.out HE.out HM.out
        subst q1; subst q2
        go_wp2_with (first
          | ((with_reducible refine (rcopyAb a HE0.out (by rw [HS.out]; omega) hle).mono ?_); rintro e w2 ⟨A', c', rfl, HO, hB2⟩; have z2 := fun o => hB2.cell (p := ⟨w.heap.size + 1, o, none⟩) (by rw [HS.out]; simp); have y2 := fun o => hB2.frozen (p := ⟨w.heap.size + 1, o, none⟩) (by rw [HS.out]; simp)))
        refine bodyPost_ret (by simp [results, Try.results102, go_sem, z2, z1]; try rfl) rfl ?_
        have hs := HS.out
        have h4 := OW.mono HO.out (base' := w.heap.size + 1 + 1) (by omega)
        have hV2 : Below w.heap.size w w2 := bstep hB2 HX.out
        refine ⟨A', c', rfl, Lib.hid ?_, by go_grown⟩
        refine OW.mono (base := w.heap.size + 1 + 1) ?_ (by omega)
        repeat (refine OW.set ?_ (by first | omega | (simp; done) | (simp; omega)) _)
        exact h4
      · have he' : (b.id == id) = false := by simpa using he
        have HM2 := Lib.hid (no_next HBk.out he HM.out)
        clear he
        go_wp2
        go_roundg (c.ab.length - (k + 1))
        case measure => omega
        case rel => exact ⟨k + 1, by omega, rfl, by go_num, Lib.hid rfl, HM2⟩
    · have hkl' : decide ((k : Int) < c.ab.length) = false := by simp; omega
      obtain ⟨q1, q2⟩ := fd_miss HF.out (fun j y hj hy => HM.out j y (by omega) hy)
      go_wp2
      subst q1; subst q2
      refine bodyPost_ret (by simp [results, Try.results102, go_sem, z1]; try rfl) rfl ?_
      exact ⟨none, 0, rfl, Lib.hid (OW.nil ef _ _), by have h0 := HX.out; go_grown⟩

end Go.Proofs.Ytijobbdgiaiocaa.Con
