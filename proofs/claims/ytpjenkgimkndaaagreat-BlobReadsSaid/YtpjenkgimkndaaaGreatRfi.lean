/-
  Contracts of the document's Ability, Aura, Foe.
-/
import Derived.Test.YtpjenkgimkndaaaGreatFin
namespace Go.Proofs.YtpjenkgimkndaaaGreat.Con
open Go.RowKit Go.Maps


set_option maxRecDepth 20000 in
set_option maxHeartbeats 4000000 in
theorem raura_any {w : World} {B : Nat} {c : Cn} (hr : RC w B c) (hB : B ≤ w.heap.size) (hs : Sm c) (id : Int) (a : Au) (x : Bool) (hf : FD Au.id zAu c.au id a x) : Calls Tryz.prog 128 #[cnv c, .int .i64 id] w fun e w' => e = .returned (.tuple #[auv a, .bool x]) ∧ Below w.heap.size w w' := by
  have hl : (c.au.length : Int) ≤ 1000000 := by have := hs.aus; omega
  have hX : Below w.heap.size w ((w.alloc (oCn c)).alloc zcAu) := by go_grown
  have hn1 : ((w.alloc (oCn c)).alloc zcAu).heap[w.heap.size + 1]? = some zcAu := by have := heap_alloc_new (w.alloc (oCn c)) zcAu; simpa using this
  have hsz : ((w.alloc (oCn c)).alloc zcAu).heap.size = w.heap.size + 1 + 1 := by simp
  have hA := (at_cn w c).of (w' := (w.alloc (oCn c)).alloc zcAu) (B := (w.alloc (oCn c)).heap.size) (by go_grown) (by simp)
  have HR := Lib.hid (hr.aus.below hX hB); have HF := Lib.hid hf
  have HX := Lib.hid hX; have HN1 := Lib.hid hn1; have HS := Lib.hid hsz; have HA := Lib.hid hA
  clear hr hs hf hX hn1 hsz hA
  go_enter Tryz.func128, Tryz.ntmps128
  go_wp2
  generalize (w.alloc (oCn c)).alloc zcAu = V at *
  go_loopg [6] c.au.length (fun m s6 wr => ∃ k : Nat, k ≤ c.au.length ∧ m = c.au.length - k ∧ s6 = .int .i64 (k : Int) ∧ Hid (wr = V) ∧ Hid (∀ j y, j < k → c.au[j]? = some y → Au.id y ≠ id))
  case atStart => exact ⟨0, by omega, rfl, rfl, Lib.hid rfl, Lib.hid (fun j _ hj => by omega)⟩
  case round =>
    obtain ⟨k, hk, rfl, rfl, HW, HM⟩ := hrel
    have hwV : V = wr := HW.out.symm
    subst hwV
    obtain ⟨d0, d1, d2, d3, d4, d5, d6, d7, d8, d9⟩ := HA.out.ten
    have z1 := blk_cell HN1.out (Below.refl V.heap.size V) (by rw [HS.out]; omega)
    have y1 := blk_froz HN1.out (Below.refl V.heap.size V) (by rw [HS.out]; omega)
    by_cases hkn : k < c.au.length
    · have hkl' : (k : Int) < c.au.length := by omega
      obtain ⟨b, hb⟩ : ∃ b, c.au[k]? = some b := ⟨_, List.getElem?_eq_getElem hkn⟩
      obtain ⟨p, off, hA, hpl, c0, c1, c2, c3, c4, c5, c6⟩ := rowAu HR.out hb (Below.refl V.heap.size V) (by rw [HS.out]; omega)
      rw [hA] at d1
      have HBk := Lib.hid hb
      clear hb hA
      by_cases he : b.id = id
      · have HE := Lib.hid he
        have he' : (b.id == id) = true := by simpa using he
        clear he
        obtain ⟨q1, q2⟩ := fd_hit HF.out HBk.out HE.out HM.out
        subst q1; subst q2
        go_wp2
        refine bodyPost_ret (by simp [results, Tryz.results128, go_sem, z1]; try rfl) rfl ?_
        exact ⟨rfl, by have h0 := HX.out; go_grown⟩
      · have he' : (b.id == id) = false := by simpa using he
        have HM2 := Lib.hid (no_next HBk.out he HM.out)
        clear he
        go_wp2
        go_roundg (c.au.length - (k + 1))
        case measure => omega
        case rel => exact ⟨k + 1, by omega, rfl, by go_num, Lib.hid rfl, HM2⟩
    · have hkl' : decide ((k : Int) < c.au.length) = false := by simp; omega
      obtain ⟨q1, q2⟩ := fd_miss HF.out (fun j y hj hy => HM.out j y (by omega) hy)
      go_wp2
      subst q1; subst q2
      refine bodyPost_ret (by simp [results, Tryz.results128, go_sem, z1]; try rfl) rfl ?_
      exact ⟨rfl, by have h0 := HX.out; go_grown⟩

set_option maxRecDepth 20000 in
set_option maxHeartbeats 4000000 in
theorem rability_any {w : World} {B : Nat} {c : Cn} (hr : RC w B c) (hB : B ≤ w.heap.size) (hs : Sm c) (id : Int) (a : Ab) (x : Bool) (hf : FD Ab.id zAb c.ab id a x) : Calls Tryz.prog 145 #[cnv c, .int .i64 id] w (AnA w a x) := by
  have hl : (c.ab.length : Int) ≤ 1000000 := by have := hs.abs; omega
  obtain ⟨he, hle⟩ := fd_ab hr hs hf
  have hX : Below w.heap.size w ((w.alloc (oCn c)).alloc zcAb) := by go_grown
  have hn1 : ((w.alloc (oCn c)).alloc zcAb).heap[w.heap.size + 1]? = some zcAb := by have := heap_alloc_new (w.alloc (oCn c)) zcAb; simpa using this
  have hsz : ((w.alloc (oCn c)).alloc zcAb).heap.size = w.heap.size + 1 + 1 := by simp
  have hA := (at_cn w c).of (w' := (w.alloc (oCn c)).alloc zcAb) (B := (w.alloc (oCn c)).heap.size) (by go_grown) (by simp)
  have HR := Lib.hid (hr.abs.below hX hB); have HF := Lib.hid hf
  have HX := Lib.hid hX; have HN1 := Lib.hid hn1; have HS := Lib.hid hsz; have HA := Lib.hid hA
  have HE0 := Lib.hid (he.below hX hB); clear he
  clear hr hs hf hX hn1 hsz hA
  go_enter Tryz.func145, Tryz.ntmps145
  go_wp2
  generalize (w.alloc (oCn c)).alloc zcAb = V at *
  go_loopg [6] c.ab.length (fun m s6 wr => ∃ k : Nat, k ≤ c.ab.length ∧ m = c.ab.length - k ∧ s6 = .int .i64 (k : Int) ∧ Hid (wr = V) ∧ Hid (∀ j y, j < k → c.ab[j]? = some y → Ab.id y ≠ id))
  case atStart => exact ⟨0, by omega, rfl, rfl, Lib.hid rfl, Lib.hid (fun j _ hj => by omega)⟩
  case round =>
    obtain ⟨k, hk, rfl, rfl, HW, HM⟩ := hrel
    have hwV : V = wr := HW.out.symm
    subst hwV
    obtain ⟨d0, d1, d2, d3, d4, d5, d6, d7, d8, d9⟩ := HA.out.ten
    have z1 := blk_cell HN1.out (Below.refl V.heap.size V) (by rw [HS.out]; omega)
    have y1 := blk_froz HN1.out (Below.refl V.heap.size V) (by rw [HS.out]; omega)
    by_cases hkn : k < c.ab.length
    · have hkl' : (k : Int) < c.ab.length := by omega
      obtain ⟨b, hb⟩ : ∃ b, c.ab[k]? = some b := ⟨_, List.getElem?_eq_getElem hkn⟩
      obtain ⟨p, off, hA, hpl, c0, c1, c2, c3, c4, c5, c6, c7⟩ := rowAb HR.out hb (Below.refl V.heap.size V) (by rw [HS.out]; omega)
      rw [hA] at d0
      have HBk := Lib.hid hb
      clear hb hA
      by_cases he : b.id = id
      · have HE := Lib.hid he
        have he' : (b.id == id) = true := by simpa using he
        clear he
        obtain ⟨q1, q2⟩ := fd_hit HF.out HBk.out HE.out HM.out
        subst q1; subst q2
        go_wp2_with (first
          | ((with_reducible refine (rcopyAb a HE0.out (by rw [HS.out]; omega) hle).mono ?_); rintro e w2 ⟨A', c', rfl, HO, hB2⟩; have z2 := fun o => hB2.cell (p := ⟨w.heap.size + 1, o, none⟩) (by rw [HS.out]; simp); have y2 := fun o => hB2.frozen (p := ⟨w.heap.size + 1, o, none⟩) (by rw [HS.out]; simp)))
        refine bodyPost_ret (by simp [results, Tryz.results145, go_sem, z2, z1]; try rfl) rfl ?_
        have hs := HS.out
        have h4 := OW.mono HO.out (base' := w.heap.size + 1 + 1) (by omega)
        have hV2 : Below w.heap.size w w2 := bstep hB2 HX.out
        refine ⟨A', c', rfl, Lib.hid ?_, by go_grown⟩
        refine OW.mono (base := w.heap.size + 1 + 1) ?_ (by omega)
        repeat (refine OW.set ?_ (by first | omega | (simp; done) | (simp; omega)) _)
        exact h4
      · have he' : (b.id == id) = false := by simpa using he
        have HM2 := Lib.hid (no_next HBk.out he HM.out)
        clear he
        go_wp2
        go_roundg (c.ab.length - (k + 1))
        case measure => omega
        case rel => exact ⟨k + 1, by omega, rfl, by go_num, Lib.hid rfl, HM2⟩
    · have hkl' : decide ((k : Int) < c.ab.length) = false := by simp; omega
      obtain ⟨q1, q2⟩ := fd_miss HF.out (fun j y hj hy => HM.out j y (by omega) hy)
      go_wp2
      subst q1; subst q2
      refine bodyPost_ret (by simp [results, Tryz.results145, go_sem, z1]; try rfl) rfl ?_
      exact ⟨none, 0, rfl, Lib.hid (OW.nil ef _ _), by have h0 := HX.out; go_grown⟩

end Go.Proofs.YtpjenkgimkndaaaGreat.Con
