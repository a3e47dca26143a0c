/-
  Contracts of Ability, Aura, Foe, the program's and the document's: the first one of that Id, copied, or a zero one.
-/
import Derived.Test.YtekpbdjnfobobaaCpo
namespace Go.Proofs.Ytekpbdjnfobobaa.Con
open Go.RowKit Go.Maps

theorem fd_ab {w : World} {B : Nat} {c : Cn} (hr : RC w B c) (hs : Sm c) {id : Int} {a : Ab} {x : Bool} (h : FD Ab.id zAb c.ab id a x) : RW ef w B a.ea a.eff ∧ (a.eff.length : Int) ≤ 100 := by
  rcases h with ⟨_, i, h1, _⟩ | ⟨_, h2, _⟩
  · have := List.mem_of_getElem? h1; exact ⟨hr.effs a this, hs.effs a this⟩
  · subst h2; exact ⟨.inl rfl, by simp [zAb]⟩
theorem fd_fo {w : World} {B : Nat} {c : Cn} (hr : RC w B c) (hs : Sm c) {id : Int} {a : Fo} {x : Bool} (h : FD Fo.id zFo c.fo id a x) : RW ln w B a.sa a.script ∧ RW pz w B a.ha a.hoard ∧ (a.script.length : Int) ≤ 100 ∧ (a.hoard.length : Int) ≤ 100 := by
  rcases h with ⟨_, i, h1, _⟩ | ⟨_, h2, _⟩
  · have := List.mem_of_getElem? h1; exact ⟨hr.scrs a this, hr.hors a this, hs.scrs a this, hs.hors a this⟩
  · subst h2; exact ⟨.inl rfl, .inl rfl, by simp [zFo], by simp [zFo]⟩
def AnA (w : World) (a : Ab) (x : Bool) (e : Ending) (w' : World) : Prop := ∃ A' c', e = .returned (.tuple #[abv (a.re A' c'), .bool x]) ∧ Hid (OW ef w' w.heap.size (.slice A' a.eff.length c') a.eff) ∧ Below w.heap.size w w'
def AnF (w : World) (a : Fo) (x : Bool) (e : Ending) (w' : World) : Prop := ∃ A' c' A2 c2, e = .returned (.tuple #[fov (a.re A' c' A2 c2), .bool x]) ∧ Hid (OW ln w' w.heap.size (.slice A' a.script.length c') a.script) ∧ Hid (OW pz w' w.heap.size (.slice A2 a.hoard.length c2) a.hoard) ∧ Below w.heap.size w w'

set_option maxRecDepth 20000 in
set_option maxHeartbeats 4000000 in
theorem aura_any {w : World} {B : Nat} {c : Cn} (hr : RC w B c) (hB : B ≤ w.heap.size) (hs : Sm c) (id : Int) (a : Au) (x : Bool) (hf : FD Au.id zAu c.au id a x) : Calls Try.prog 10 #[cnv c, .int .i64 id] w fun e w' => e = .returned (.tuple #[auv a, .bool x]) ∧ Below w.heap.size w w' := by
  have hl : (c.au.length : Int) ≤ 1000000 := by have := hs.aus; omega
  have hX : Below w.heap.size w ((w.alloc (oCn c)).alloc zcAu) := by go_grown
  have hn1 : ((w.alloc (oCn c)).alloc zcAu).heap[w.heap.size + 1]? = some zcAu := by have := heap_alloc_new (w.alloc (oCn c)) zcAu; simpa using this
  have hsz : ((w.alloc (oCn c)).alloc zcAu).heap.size = w.heap.size + 1 + 1 := by simp
  have HC := Lib.hid (find_au (c := c.uC) rfl (hr.aus.below hX hB) (Nat.le_trans hB hX.size) hl id a x hf)
  have HX := Lib.hid hX; have HN1 := Lib.hid hn1; have HS := Lib.hid hsz
  clear hr hs hf hX hn1 hsz
  go_enter Try.func10, Try.ntmps10
  go_wp2_with (first
    | ((with_reducible refine HC.out.mono ?_); rintro e w1 ⟨rfl, hB1⟩; have hV1 : Below w.heap.size w w1 := HX.out.trans (hB1.mono HX.out.size); have z1 := blk_cell HN1.out hB1 (by rw [HS.out]; omega); have y1 := blk_froz HN1.out hB1 (by rw [HS.out]; omega)))
  refine bodyPost_ret (by simp [results, Try.results10, go_sem, z1]; try rfl) rfl ?_
  exact ⟨rfl, by go_grown⟩

set_option maxRecDepth 20000 in
set_option maxHeartbeats 4000000 in
theorem ability_any {w : World} {B : Nat} {c : Cn} (hr : RC w B c) (hB : B ≤ w.heap.size) (hs : Sm c) (id : Int) (a : Ab) (x : Bool) (hf : FD Ab.id zAb c.ab id a x) : Calls Try.prog 8 #[cnv c, .int .i64 id] w (AnA w a x) := by
  have hl : (c.ab.length : Int) ≤ 1000000 := by have := hs.abs; omega
  obtain ⟨he, hle⟩ := fd_ab hr hs hf
  have hX : Below w.heap.size w ((w.alloc (oCn c)).alloc zcAb) := by go_grown
  have hn1 : ((w.alloc (oCn c)).alloc zcAb).heap[w.heap.size + 1]? = some zcAb := by have := heap_alloc_new (w.alloc (oCn c)) zcAb; simpa using this
  have hsz : ((w.alloc (oCn c)).alloc zcAb).heap.size = w.heap.size + 1 + 1 := by simp
  have HC := Lib.hid (find_ab (c := c.aC) rfl (hr.abs.below hX hB) (Nat.le_trans hB hX.size) hl id a x hf)
  have HX := Lib.hid hX; have HN1 := Lib.hid hn1; have HS := Lib.hid hsz; have HE := Lib.hid he
  clear hr hs hf hX hn1 hsz he
  go_enter Try.func8, Try.ntmps8
  go_wp2_with (first
    | ((with_reducible refine HC.out.mono ?_); rintro e w1 ⟨rfl, hB1⟩; have hV1 : Below w.heap.size w w1 := HX.out.trans (hB1.mono HX.out.size); have z1 := blk_cell HN1.out hB1 (by rw [HS.out]; omega); have y1 := blk_froz HN1.out hB1 (by rw [HS.out]; omega); have hs1 : w.heap.size + 1 < w1.heap.size := Nat.lt_of_lt_of_le (by rw [HS.out]; omega) hB1.size; have hsw := hV1.size)
    | ((with_reducible refine (copyAb a (HE.out.below (by go_grown : Below w.heap.size w _) hB) (by go_size) hle).mono ?_); rintro e w2 ⟨A', c', rfl, HO, hB2⟩; have hV2 : Below w.heap.size w w2 := bstep hB2 (by go_grown); have z2 := fun o => hB2.cell (p := ⟨w.heap.size + 1, o, none⟩) (by go_size); have y2 := fun o => hB2.frozen (p := ⟨w.heap.size + 1, o, none⟩) (by go_size)))
  refine bodyPost_ret (by simp [results, Try.results8, go_sem, z2, z1, hs1]; try rfl) rfl ?_
  have h4 := OW.mono HO.out (base' := w.heap.size + 1 + 1) (by simp; omega)
  refine ⟨A', c', rfl, Lib.hid ?_, by go_grown⟩
  refine OW.mono (base := w.heap.size + 1 + 1) ?_ (by omega)
  repeat (refine OW.set ?_ (by first | omega | (simp; done) | (simp; omega)) _)
  exact h4

set_option maxRecDepth 20000 in
set_option maxHeartbeats 4000000 in
theorem foe_any {w : World} {B : Nat} {c : Cn} (hr : RC w B c) (hB : B ≤ w.heap.size) (hs : Sm c) (id : Int) (a : Fo) (x : Bool) (hf : FD Fo.id zFo c.fo id a x) : Calls Try.prog 12 #[cnv c, .int .i64 id] w (AnF w a x) := by
  have hl : (c.fo.length : Int) ≤ 1000000 := by have := hs.fos; omega
  obtain ⟨he, hh, hle, hlh⟩ := fd_fo hr hs hf
  have hX : Below w.heap.size w ((w.alloc (oCn c)).alloc zcFo) := by go_grown
  have hn1 : ((w.alloc (oCn c)).alloc zcFo).heap[w.heap.size + 1]? = some zcFo := by have := heap_alloc_new (w.alloc (oCn c)) zcFo; simpa using this
  have hsz : ((w.alloc (oCn c)).alloc zcFo).heap.size = w.heap.size + 1 + 1 := by simp
  have HC := Lib.hid (find_fo (c := c.fC) rfl (hr.fos.below hX hB) (Nat.le_trans hB hX.size) hl id a x hf)
  have HX := Lib.hid hX; have HN1 := Lib.hid hn1; have HS := Lib.hid hsz; have HE := Lib.hid he; have HH := Lib.hid hh
  clear hr hs hf hX hn1 hsz he hh
  go_enter Try.func12, Try.ntmps12
  go_wp2_with (first
    | ((with_reducible refine HC.out.mono ?_); rintro e w1 ⟨rfl, hB1⟩; have hV1 : Below w.heap.size w w1 := HX.out.trans (hB1.mono HX.out.size); have z1 := blk_cell HN1.out hB1 (by rw [HS.out]; omega); have y1 := blk_froz HN1.out hB1 (by rw [HS.out]; omega); have hs1 : w.heap.size + 1 < w1.heap.size := Nat.lt_of_lt_of_le (by rw [HS.out]; omega) hB1.size; have hsw := hV1.size)
    | ((with_reducible refine (copyFo a (HE.out.below (by go_grown : Below w.heap.size w _) hB) (HH.out.below (by go_grown : Below w.heap.size w _) hB) (by go_size) hle hlh).mono ?_); rintro e w2 ⟨A', c', A2, c2, rfl, HO, HO2, hB2⟩; have hV2 : Below w.heap.size w w2 := bstep hB2 (by go_grown); have z2 := fun o => hB2.cell (p := ⟨w.heap.size + 1, o, none⟩) (by go_size); have y2 := fun o => hB2.frozen (p := ⟨w.heap.size + 1, o, none⟩) (by go_size)))
  refine bodyPost_ret (by simp [results, Try.results12, go_sem, z2, z1, hs1]; try rfl) rfl ?_
  have h4 := OW.mono HO.out (base' := w.heap.size + 1 + 1) (by simp; omega)
  have h5 := OW.mono HO2.out (base' := w.heap.size + 1 + 1) (by simp; omega)
  refine ⟨A', c', A2, c2, rfl, Lib.hid ?_, Lib.hid ?_, by go_grown⟩
  · refine OW.mono (base := w.heap.size + 1 + 1) ?_ (by omega)
    repeat (refine OW.set ?_ (by first | omega | (simp; done) | (simp; omega)) _)
    exact h4
  · refine OW.mono (base := w.heap.size + 1 + 1) ?_ (by omega)
    repeat (refine OW.set ?_ (by first | omega | (simp; done) | (simp; omega)) _)
    exact h5
end Go.Proofs.Ytekpbdjnfobobaa.Con
