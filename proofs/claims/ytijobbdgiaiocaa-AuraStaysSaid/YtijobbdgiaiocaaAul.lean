/-
  Contracts of content's Aura and of the document's own: the first aura of that Id.
-/
import Derived.Test.YtijobbdgiaiocaaChk
import Derived.Test.YtijobbdgiaiocaaAup
import Derived.Test.YtijobbdgiaiocaaMul
namespace Go.Proofs.Ytijobbdgiaiocaa.Con
open Go.RowKit Go.Maps

set_option maxRecDepth 20000 in
set_option maxHeartbeats 4000000 in
theorem aura_any {w : World} {B : Nat} {c : Cn} (hr : RC w B c) (hB : B ≤ w.heap.size) (hs : Sm c) (id : Int) (a : Au) (x : Bool) (hf : FD Au.id zAu c.au id a x) : Calls Try.prog 26 #[cnv c, .int .i64 id] w fun e w' => e = .returned (.tuple #[auv a, .bool x]) ∧ Below w.heap.size w w' := by
  have hl : (c.au.length : Int) ≤ 1000000 := by have := hs.aus; omega
  have hX : Below w.heap.size w ((w.alloc (oCn c)).alloc zcAu) := by go_grown
  have hn1 : ((w.alloc (oCn c)).alloc zcAu).heap[w.heap.size + 1]? = some zcAu := by have := heap_alloc_new (w.alloc (oCn c)) zcAu; simpa using this
  have hsz : ((w.alloc (oCn c)).alloc zcAu).heap.size = w.heap.size + 1 + 1 := by simp
  have HC := Lib.hid (find_au (c := c.uC) rfl (hr.aus.below hX hB) (Nat.le_trans hB hX.size) hl id a x hf)
  have HX := Lib.hid hX; have HN1 := Lib.hid hn1; have HS := Lib.hid hsz
  clear hr hs hf hX hn1 hsz
  go_enter Try.func26, Try.ntmps26
  go_wp2_with (first
    | ((with_reducible refine HC.out.mono ?_); rintro e w1 ⟨rfl, hB1⟩; have hV1 : Below w.heap.size w w1 := HX.out.trans (hB1.mono HX.out.size); have z1 := blk_cell HN1.out hB1 (by rw [HS.out]; omega); have y1 := blk_froz HN1.out hB1 (by rw [HS.out]; omega)))
  refine bodyPost_ret (by simp [results, Try.results26, go_sem, z1]; try rfl) rfl ?_
  exact ⟨rfl, by go_grown⟩

set_option maxRecDepth 20000 in
set_option maxHeartbeats 4000000 in
theorem raura_any {w : World} {B : Nat} {c : Cn} (hr : RC w B c) (hB : B ≤ w.heap.size) (hs : Sm c) (id : Int) (a : Au) (x : Bool) (hf : FD Au.id zAu c.au id a x) : Calls Try.prog 33 #[cnv c, .int .i64 id] w fun e w' => e = .returned (.tuple #[auv a, .bool x]) ∧ Below w.heap.size w w' := by
  have hl : (c.au.length : Int) ≤ 1000000 := by have := hs.aus; omega
  have hX : Below w.heap.size w ((w.alloc (oCn c)).alloc zcAu) := by go_grown
  have hn1 : ((w.alloc (oCn c)).alloc zcAu).heap[w.heap.size + 1]? = some zcAu := by have := heap_alloc_new (w.alloc (oCn c)) zcAu; simpa using this
  have hsz : ((w.alloc (oCn c)).alloc zcAu).heap.size = w.heap.size + 1 + 1 := by simp
  have hA := (at_cn w c).of (w' := (w.alloc (oCn c)).alloc zcAu) (B := (w.alloc (oCn c)).heap.size) (by go_grown) (by simp)
  have HR := Lib.hid (hr.aus.below hX hB); have HF := Lib.hid hf
  have HX := Lib.hid hX; have HN1 := Lib.hid hn1; have HS := Lib.hid hsz; have HA := Lib.hid hA
  clear hr hs hf hX hn1 hsz hA
  go_enter Try.func33, Try.ntmps33
  go_wp2
  generalize (w.alloc (oCn c)).alloc zcAu = V at *
  go_loopg [6] c.au.length (fun m s6 wr => ∃ k : Nat, k ≤ c.au.length ∧ m = c.au.length - k ∧ s6 = .int .i64 (k : Int) ∧ Hid (wr = V) ∧ Hid (∀ j y, j < k → c.au[j]? = some y → Au.id y ≠ id))
  case atStart => exact ⟨0, by omega, rfl, rfl, Lib.hid rfl, Lib.hid (fun j _ hj => by omega)⟩
  case round =>
    obtain ⟨k, hk, rfl, rfl, HW, HM⟩ := hrel
    have hwV : V = wr := HW.out.symm
    subst hwV
    obtain ⟨d0, d1, d2, d3, d4, d5, d6, d7, d8, d9⟩ := HA.out.ten
    have z1 := blk_cell HN1.out (Below.refl V.heap.size V) (by rw [HS.out]; omega)
    have y1 := blk_froz HN1.out (Below.refl V.heap.size V) (by rw [HS.out]; omega)
    by_cases hkn : k < c.au.length
    · have hkl' : (k : Int) < c.au.length := by omega
      obtain ⟨b, hb⟩ : ∃ b, c.au[k]? = some b := ⟨_, List.getElem?_eq_getElem hkn⟩
      obtain ⟨p, off, hA, hpl, c0, c1, c2, c3, c4, c5, c6⟩ := rowAu HR.out hb (Below.refl V.heap.size V) (by rw [HS.out]; omega)
      rw [hA] at d1
      have HBk := Lib.hid hb
      clear hb hA
      by_cases he : b.id = id
      · have HE := Lib.hid he
        have he' : (b.id == id) = true := by simpa using he
        clear he
        obtain ⟨q1, q2⟩ := fd_hit HF.out HBk.out HE.out HM.out
        subst q1; subst q2
        go_wp2
        refine bodyPost_ret (by simp [results, Try.results33, go_sem, z1]; try rfl) rfl ?_
        exact ⟨rfl, by have h0 := HX.out; go_grown⟩
      · have he' : (b.id == id) = false := by simpa using he
        have HM2 := Lib.hid (no_next HBk.out he HM.out)
        clear he
        go_wp2
        go_roundg (c.au.length - (k + 1))
        case measure => omega
        case rel => exact ⟨k + 1, by omega, rfl, by go_num, Lib.hid rfl, HM2⟩
    · have hkl' : decide ((k : Int) < c.au.length) = false := by simp; omega
      obtain ⟨q1, q2⟩ := fd_miss HF.out (fun j y hj hy => HM.out j y (by omega) hy)
      go_wp2
      subst q1; subst q2
      refine bodyPost_ret (by simp [results, Try.results33, go_sem, z1]; try rfl) rfl ?_
      exact ⟨rfl, by have h0 := HX.out; go_grown⟩

/-- In this world, and in later ones, Aura finds the aura of any Id. -/
def AuC (c : Cn) (w : World) : Prop := ∀ V, Below w.heap.size w V → ∀ id : Int, Calls Try.prog 26 #[cnv c, .int .i64 id] V fun e w' => e = .returned (.tuple #[auv (lkA c.au id), .bool (lkB c.au id)]) ∧ Below V.heap.size V w'
def RuC (c : Cn) (w : World) : Prop := ∀ V, Below w.heap.size w V → ∀ id : Int, Calls Try.prog 33 #[cnv c, .int .i64 id] V fun e w' => e = .returned (.tuple #[auv (lkA c.au id), .bool (lkB c.au id)]) ∧ Below V.heap.size V w'
theorem auC {w : World} {B : Nat} {c : Cn} (hr : RC w B c) (hB : B ≤ w.heap.size) (hs : Sm c) : AuC c w := fun _ hV id => aura_any (hr.below hV hB) (Nat.le_trans hB hV.size) hs id _ _ (lk_fd id c.au)
theorem ruC {w : World} {B : Nat} {c : Cn} (hr : RC w B c) (hB : B ≤ w.heap.size) (hs : Sm c) : RuC c w := fun _ hV id => raura_any (hr.below hV hB) (Nat.le_trans hB hV.size) hs id _ _ (lk_fd id c.au)
theorem AuC.of {c : Cn} {w w' : World} (h : AuC c w) (hb : Below w.heap.size w w')   : AuC c w' := fun _ hV id => h _ (hb.trans (hV.mono hb.size)) id
theorem RuC.of {c : Cn} {w w' : World} (h : RuC c w) (hb : Below w.heap.size w w')   : RuC c w' := fun _ hV id => h _ (hb.trans (hV.mono hb.size)) id
/-- A box of content. -/
def CB (w : World) (p : Nat) (c : Cn) : Prop := w.heap[p]? = some (oCn c)
theorem hkeep1 {w w' : World} {P B : Nat} {o : Obj} (hb : Below B w w') (hP : P < B) (h : w.heap[P]? = some o) : w'.heap[P]? = some o := (hb.block _ hP).trans h
theorem cellOf1 {w : World} {b : Nat} {cs : Array Value} {t : TypeId} {z : Nat × Nat} (h : w.heap[b]? = some (.cells cs t z)) (o : Nat) : w.cell? ⟨b, o, none⟩ = cs[o]? := by simp [World.cell?, h]
theorem lt_blk1 {w : World} {b : Nat} {x : Obj} (h : w.heap[b]? = some x) : b < w.heap.size := (Array.getElem?_eq_some_iff.1 h).1
theorem frozOf1 {w : World} {b : Nat} {cs : Array Value} {t : TypeId} (h : w.heap[b]? = some (.cells cs t (0, 0))) (o : Nat) : w.frozen? ⟨b, o, none⟩ = false := by simp [World.frozen?, h]
end Go.Proofs.Ytijobbdgiaiocaa.Con
