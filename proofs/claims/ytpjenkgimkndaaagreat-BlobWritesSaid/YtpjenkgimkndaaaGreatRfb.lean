/-
  Contract of the document's own Flat: content as numbers.
-/
import Derived.Test.YtpjenkgimkndaaaGreatFlc
import Derived.Test.YtpjenkgimkndaaaGreatRck
namespace Go.Proofs.YtpjenkgimkndaaaGreat.Con
open Go.RowKit Go.Maps Pm Mth

theorem rflag_any (b : Bool) (w : World) : Calls Tryz.prog 32 #[.bool b] w fun e w' => e = .returned (.int .i64 (b2i b)) ∧ w = w' := by
  cases b with
  | true =>
    go_enter Tryz.func32, Tryz.ntmps32
    go_wp2
    go_ret
    exact ⟨rfl, rfl⟩
  | false =>
    go_enter Tryz.func32, Tryz.ntmps32
    go_wp2
    go_ret
    exact ⟨rfl, rfl⟩
/-- A row of numbers of the call's own beside a box that stays. -/
structure Bx (V w : World) (P : Nat) (o : Obj) (A : Option Addr) (c : Nat) (l : List Int) : Prop where
  own : Own w V.heap.size .i64 3 A c l
  low : Below V.heap.size V w
  box : w.heap[P]? = some o
  ne : blk A ≠ some P
theorem Bx.new {V w : World} {A : Option Addr} {c : Nat} {l : List Int} (ho : Own w V.heap.size .i64 3 A c l) (hb : Below V.heap.size V w) (o : Obj) : Bx V (w.alloc o) w.heap.size o A c l :=
  ⟨ho.alloc _, hb.alloc hb.size _, heap_alloc_new w o, fun e => by have := (ho.lt _ e).2; omega⟩
theorem Bx.alloc {V w : World} {P : Nat} {o : Obj} {A : Option Addr} {c : Nat} {l : List Int} (h : Bx V w P o A c l) (q : Obj) : Bx V (w.alloc q) P o A c l :=
  ⟨h.own.alloc _, h.low.alloc h.low.size _, (Below.heap_alloc _ _ _ (lt_of_block h.box)).trans h.box, h.ne⟩
theorem Bx.drew {V w : World} {P : Nat} {o : Obj} {A : Option Addr} {c : Nat} {l : List Int} (h : Bx V w P o A c l) : Bx V w.drew P o A c l := ⟨h.own, h.low.drew, h.box, h.ne⟩
theorem Bx.step {V w w' : World} {P : Nat} {o : Obj} {A A' : Option Addr} {c c' : Nat} {l l' : List Int} (h : Bx V w P o A c l) (ho : Own w' V.heap.size .i64 3 A' c' l') (hs : Step w w' (blk A) A') : Bx V w' P o A' c' l' := by
  refine ⟨ho, h.low.trans (hs.below (fun k hk => (h.own.lt k hk).1) h.low.size), (hs.grown.block P (lt_of_block h.box) (fun e => h.ne e.symm)).trans h.box, fun e => ?_⟩
  rcases hs.lies with h1 | ⟨k, h1, h2⟩
  · exact h.ne (h1.symm.trans e)
  · rw [h1] at e; injection e with e; have := lt_of_block h.box; omega
/-- The numbers that are one's own, with less said of where they lie. -/
theorem Own.mono {w : World} {base base' : Nat} {K : IntKind} {e : TypeId} {A : Option Addr} {c : Nat} {l : List Int} (h : Own w base K e A c l) (hb : base' ≤ base) : Own w base' K e A c l := by
  refine ⟨h.1, ?_⟩
  rcases h.2 with h2 | ⟨g, cap, cur, h1, h2, h3, h4⟩
  · exact .inl h2
  · exact .inr ⟨g, cap, cur, h1, by omega, h3, h4⟩
theorem room_of {l a m : List Int} (h : ((l ++ a ++ m).length : Int) ≤ 1000000) : l.length + a.length ≤ 17179869184 := by simp only [List.length_append] at h; omega
theorem in_row {α : Type} {g : α → List Int} {m : List α} {k : Nat} {x : α} (hx : m[k]? = some x) : (m.flatMap g).length = ((m.take k).flatMap g).length + (g x).length + ((m.drop (k + 1)).flatMap g).length := by
  have e : m = m.take k ++ (x :: m.drop (k + 1)) := by
    obtain ⟨hk, rfl⟩ := List.getElem?_eq_some_iff.1 hx
    rw [List.getElem_cons_drop, List.take_append_drop]
  conv => lhs; rw [e]
  simp; omega
theorem flat_next {α : Type} {g : α → List Int} {m : List α} {k : Nat} {x : α} (hx : m[k]? = some x) {l l1 l2 : List Int} (h1 : l1 = l ++ (m.take k).flatMap g) (h2 : l2 = l1 ++ g x) : l2 = l ++ (m.take (k + 1)).flatMap g := by
  rw [h2, h1, List.take_add_one, hx]; simp
theorem flat_all {α : Type} {g : α → List Int} {m : List α} {k : Nat} (hk : m.length ≤ k) {l l1 : List Int} (h1 : l1 = l ++ (m.take k).flatMap g) : l1 = l ++ m.flatMap g := by rw [h1, List.take_of_length_le hk]
theorem rowEf1 {w W : World} {B B' : Nat} {A : Option Addr} {l : List Ef} (hr : RW ef w B A l) {k : Nat} {x : Ef} (hx : l[k]? = some x) (hb : Below B' w W) (hB : B ≤ B') {p off : Nat} (hA : A = some ⟨p, off, none⟩) :
    W.cell? ⟨p, off + k * 3, none⟩ = some (.int .i64 x.kind) ∧ W.cell? ⟨p, off + k * 3 + 1, none⟩ = some (.int .i64 x.amount) ∧ W.cell? ⟨p, off + k * 3 + 2, none⟩ = some (.int .i64 x.aura) := by
  obtain ⟨p2, off2, hA2, _, q⟩ := rowEf hr hx hb hB
  rw [hA] at hA2; injection hA2 with e; injection e with e1 e2; subst e1; subst e2
  exact q
theorem low_step {V w w' : World} {base : Nat} {q : Obj} {A A' : Option Addr} {c : Nat} {l : List Int} (hb : Below base V w) (ho : Own w base .i64 3 A c l) (hs : Step (w.alloc q) w' (blk A) A') (hV : base ≤ V.heap.size := by omega) : Below base V w' :=
  (hb.alloc (Nat.le_trans hV hb.size) q).trans (hs.below (fun k hk => (ho.lt k hk).1) (Nat.le_trans (Nat.le_trans hV hb.size) (by simp)))
/-- What of a foe's numbers stands between its first seven and its hoard. -/
def fFoT (a : Fo) : List Int := a.script.flatMap fLn ++ [(a.hoard.length : Int)]
theorem rowPz1 {w W : World} {B B' : Nat} {A : Option Addr} {l : List Pz} (hr : RW pz w B A l) {k : Nat} {x : Pz} (hx : l[k]? = some x) (hb : Below B' w W) (hB : B ≤ B') {p off : Nat} (hA : A = some ⟨p, off, none⟩) :
    W.cell? ⟨p, off + k * 2, none⟩ = some (.int .i64 x.item) ∧ W.cell? ⟨p, off + k * 2 + 1, none⟩ = some (.int .i64 x.weight) := by
  obtain ⟨p2, off2, hA2, _, q⟩ := rowPz hr hx hb hB
  rw [hA] at hA2; injection hA2 with e; injection e with e1 e2; subst e1; subst e2
  exact q
theorem own_one (w : World) (n : Int) : Own (w.alloc (.cells #[.int .i64 n] 3)) w.heap.size .i64 3 (some ⟨w.heap.size, 0, none⟩) 1 [n] :=
  ⟨rfl, .inr ⟨w.heap.size, 1, #[.int .i64 n], rfl, Nat.le_refl _, heap_alloc_new w _, Nat.le_refl _, by decide, rfl, rfl⟩⟩
set_option maxRecDepth 100000 in
set_option maxHeartbeats 64000000 in
theorem rflat_any {w : World} {B : Nat} (x : Cn) (hr : RC w B x) (hB : B ≤ w.heap.size) (hs : Sm x) (hl : ((fCn x).length : Int) ≤ 1000000) : Calls Tryz.prog 12 #[cnv x] w (NI w (fCn x)) := by
  have hb : Below w.heap.size w (w.alloc (oCn x)) := by go_grown
  have HB := Lib.hid hb; have HBw := Lib.hid (Nat.le_trans hB hb.size)
  have HR := Lib.hid (hr.below hb hB); have HS := Lib.hid hs
  have HL := Lib.hid (show (fRows fAb x.ab).length + (fRows fAu x.au).length + (fRows fFo x.fo).length + (fRows fTr x.wl).length + 20 ≤ 1000020 by have := hl; unfold fCn at this; simp only [List.length_append, List.length_cons, List.length_nil] at this; omega)
  have HC0 : Hid ((w.alloc (oCn x)).heap[w.heap.size]? = some (oCn x)) := Lib.hid (heap_alloc_new w _)
  clear hb hr hs hB hl
  go_enter Tryz.func12, Tryz.ntmps12
  go_wp2_with (fail)
  generalize hV : w.alloc (oCn x) = V at *
  have HVw : Hid (V.heap.size = w.heap.size + 1) := Lib.hid (by rw [← hV]; simp)
  clear hV
  go_loopg [3, 4] x.ab.length (fun m s3 s4 wr => ∃ (k : Nat) (A1 : Option Addr) (c1 : Nat) (l1 : List Int), k ≤ x.ab.length ∧ m = x.ab.length - k ∧ s3 = .slice A1 l1.length c1 ∧ s4 = .int .i64 (k : Int) ∧ Hid (Own wr V.heap.size .i64 3 A1 c1 l1) ∧ Hid (Below V.heap.size V wr) ∧ Hid (l1 = [(x.ab.length : Int)] ++ (x.ab.take k).flatMap fAb))
  case atStart => exact ⟨0, some ⟨w.heap.size + 1, 0, none⟩, 1, [(x.ab.length : Int)], by omega, rfl, rfl, rfl, Lib.hid (by rw [← HVw.out]; exact own_one V _), Lib.hid ((Below.refl _ _).alloc (Nat.le_refl _) _), Lib.hid (by simp)⟩
  case round =>
    obtain ⟨k, A1, c1, l1, hk, rfl, rfl, rfl, HO1, HW, HE⟩ := hrel
    have HCr := Lib.hid (hkeep1 HW.out HC0.out)
    have hc := cellOf1 HCr.out; have lc := lt_blk1 HCr.out
    by_cases hlt : k < x.ab.length
    · have hkl' : (k : Int) < x.ab.length := by omega
      have hkb : (k : Int) ≤ 1000000 := by have := HS.out.abs; omega
      obtain ⟨a, ha⟩ : ∃ a, x.ab[k]? = some a := ⟨_, List.getElem?_eq_getElem hlt⟩
      obtain ⟨p, off, hA, hpl, q0, q1, q2, q3, q4, q5, q6, q7⟩ := rowAb HR.out.abs ha HW.out HBw.out
      have hpw : p < wr.heap.size := Nat.lt_of_lt_of_le hpl (Nat.le_trans HBw.out HW.out.size)
      have HEa := Lib.hid hA; have HAk := Lib.hid ha
      have HEf := Lib.hid (HR.out.effs a (List.mem_of_getElem? ha))
      have HEn := Lib.hid (HS.out.effs a (List.mem_of_getElem? ha))
      have HRm : Hid (l1.length + 8 + (a.eff.flatMap fEf).length ≤ 1000020) := Lib.hid (by
        have h1 := in_row (g := fAb) ha
        have h2 := HL.out; have h3 := congrArg List.length HE.out
        unfold fRows at h2; simp only [List.length_append, List.length_cons, List.length_nil] at h2 h3
        have h4 : (fAb a).length = 8 + (a.eff.flatMap fEf).length := by simp [fAb, fRows]; omega
        omega)
      have HRm8 : Hid (l1.length + [a.id, a.cast, a.cool, a.charges, a.range, a.cost, b2i a.sight, (a.eff.length : Int)].length ≤ 17179869184) := Lib.hid (by have := HRm.out; simp; omega)
      rw [hA] at hc
      clear hA ha
      have hBx0 : Bx V (wr.alloc (.cells #[.int .i64 a.id, .int .i64 a.cast, .int .i64 a.cool, .int .i64 a.charges, .int .i64 a.range, .int .i64 a.cost, .bool a.sight, .slice a.ea a.eff.length a.ec] 52)) wr.heap.size (.cells #[.int .i64 a.id, .int .i64 a.cast, .int .i64 a.cool, .int .i64 a.charges, .int .i64 a.range, .int .i64 a.cost, .bool a.sight, .slice a.ea a.eff.length a.ec] 52) A1 c1 l1 := Bx.new HO1.out HW.out _
      go_wp2_with (fail)
      have hB0 := hBx0.drew
      have hS0 := hB0.box
      refine wp_region_noPanic ?_
      refine wp_region_held_drew (S := fun wz => wz.heap[wr.heap.size]? = some (.cells #[.int .i64 a.id, .int .i64 a.cast, .int .i64 a.cool, .int .i64 a.charges, .int .i64 a.range, .int .i64 a.cost, .bool a.sight, .slice a.ea a.eff.length a.ec] 52)) (by kernel_rfl) hBx0.box (fun _ => ?_)
      generalize (wr.alloc (.cells #[.int .i64 a.id, .int .i64 a.cast, .int .i64 a.cool, .int .i64 a.charges, .int .i64 a.range, .int .i64 a.cost, .bool a.sight, .slice a.ea a.eff.length a.ec] 52)).drew = v0 at hB0 hS0 ⊢
      clear hc lc q0 q1 q2 q3 q4 q5 q6 q7 hBx0
      refine wpAnyH_take (i := 0) (oi := ⟨some 31, Op.move (Operand.tmp 3), 35, _, _, none⟩) (v := ?va0) rfl (by kernel_rfl) (by kernel_rfl) (by kernel_rfl) (fun _ _ _ h => h) (Or.inl ⟨by rfl, ?ha0⟩) hS0 ?ra0
      case ha0 => (intro wz hSw; go_simp <;> with_reducible rfl)
      (try simp only [Act.put, List.setIfInBounds_toArray, List.set_cons_zero, List.set_cons_succ])
      refine wpAnyH_take (i := 1) (oi := ⟨some 32, Op.fieldAddr 52 (Operand.tmp 5) 0, 0, _, _, none⟩) (v := ?va1) rfl (by kernel_rfl) (by kernel_rfl) (by kernel_rfl) (fun _ _ _ h => h) (Or.inl ⟨by rfl, ?ha1⟩) hS0 ?ra1
      case ha1 => (intro wz hSw; go_simp <;> with_reducible rfl)
      (try simp only [Act.put, List.setIfInBounds_toArray, List.set_cons_zero, List.set_cons_succ])
      refine wpAnyH_take (i := 2) (oi := ⟨some 33, Op.load 3 (Operand.tmp 32), 3, _, _, none⟩) (v := ?va2) rfl (by kernel_rfl) (by kernel_rfl) (by kernel_rfl) (fun _ _ _ h => h) (Or.inl ⟨by rfl, ?ha2⟩) hS0 ?ra2
      case ha2 => (intro wz hSw; have z := cellOf1 hSw; go_simp <;> with_reducible rfl)
      (try simp only [Act.put, List.setIfInBounds_toArray, List.set_cons_zero, List.set_cons_succ])
      refine wpAnyH_take (i := 3) (oi := ⟨some 34, Op.fieldAddr 52 (Operand.tmp 5) 1, 0, _, _, none⟩) (v := ?va3) rfl (by kernel_rfl) (by kernel_rfl) (by kernel_rfl) (fun _ _ _ h => h) (Or.inl ⟨by rfl, ?ha3⟩) hS0 ?ra3
      case ha3 => (intro wz hSw; go_simp <;> with_reducible rfl)
      (try simp only [Act.put, List.setIfInBounds_toArray, List.set_cons_zero, List.set_cons_succ])
      refine wpAnyH_take (i := 4) (oi := ⟨some 35, Op.load 3 (Operand.tmp 34), 3, _, _, none⟩) (v := ?va4) rfl (by kernel_rfl) (by kernel_rfl) (by kernel_rfl) (fun _ _ _ h => h) (Or.inl ⟨by rfl, ?ha4⟩) hS0 ?ra4
      case ha4 => (intro wz hSw; have z := cellOf1 hSw; go_simp <;> with_reducible rfl)
      (try simp only [Act.put, List.setIfInBounds_toArray, List.set_cons_zero, List.set_cons_succ])
      refine wpAnyH_take (i := 5) (oi := ⟨some 36, Op.fieldAddr 52 (Operand.tmp 5) 2, 0, _, _, none⟩) (v := ?va5) rfl (by kernel_rfl) (by kernel_rfl) (by kernel_rfl) (fun _ _ _ h => h) (Or.inl ⟨by rfl, ?ha5⟩) hS0 ?ra5
      case ha5 => (intro wz hSw; go_simp <;> with_reducible rfl)
      (try simp only [Act.put, List.setIfInBounds_toArray, List.set_cons_zero, List.set_cons_succ])
      refine wpAnyH_take (i := 6) (oi := ⟨some 37, Op.load 3 (Operand.tmp 36), 3, _, _, none⟩) (v := ?va6) rfl (by kernel_rfl) (by kernel_rfl) (by kernel_rfl) (fun _ _ _ h => h) (Or.inl ⟨by rfl, ?ha6⟩) hS0 ?ra6
      case ha6 => (intro wz hSw; have z := cellOf1 hSw; go_simp <;> with_reducible rfl)
      (try simp only [Act.put, List.setIfInBounds_toArray, List.set_cons_zero, List.set_cons_succ])
      refine wpAnyH_take (i := 7) (oi := ⟨some 38, Op.fieldAddr 52 (Operand.tmp 5) 3, 0, _, _, none⟩) (v := ?va7) rfl (by kernel_rfl) (by kernel_rfl) (by kernel_rfl) (fun _ _ _ h => h) (Or.inl ⟨by rfl, ?ha7⟩) hS0 ?ra7
      case ha7 => (intro wz hSw; go_simp <;> with_reducible rfl)
      (try simp only [Act.put, List.setIfInBounds_toArray, List.set_cons_zero, List.set_cons_succ])
      refine wpAnyH_take (i := 8) (oi := ⟨some 39, Op.load 3 (Operand.tmp 38), 3, _, _, none⟩) (v := ?va8) rfl (by kernel_rfl) (by kernel_rfl) (by kernel_rfl) (fun _ _ _ h => h) (Or.inl ⟨by rfl, ?ha8⟩) hS0 ?ra8
      case ha8 => (intro wz hSw; have z := cellOf1 hSw; go_simp <;> with_reducible rfl)
      (try simp only [Act.put, List.setIfInBounds_toArray, List.set_cons_zero, List.set_cons_succ])
      refine wpAnyH_take (i := 9) (oi := ⟨some 40, Op.fieldAddr 52 (Operand.tmp 5) 4, 0, _, _, none⟩) (v := ?va9) rfl (by kernel_rfl) (by kernel_rfl) (by kernel_rfl) (fun _ _ _ h => h) (Or.inl ⟨by rfl, ?ha9⟩) hS0 ?ra9
      case ha9 => (intro wz hSw; go_simp <;> with_reducible rfl)
      (try simp only [Act.put, List.setIfInBounds_toArray, List.set_cons_zero, List.set_cons_succ])
      refine wpAnyH_take (i := 10) (oi := ⟨some 41, Op.load 3 (Operand.tmp 40), 3, _, _, none⟩) (v := ?va10) rfl (by kernel_rfl) (by kernel_rfl) (by kernel_rfl) (fun _ _ _ h => h) (Or.inl ⟨by rfl, ?ha10⟩) hS0 ?ra10
      case ha10 => (intro wz hSw; have z := cellOf1 hSw; go_simp <;> with_reducible rfl)
      (try simp only [Act.put, List.setIfInBounds_toArray, List.set_cons_zero, List.set_cons_succ])
      refine wpAnyH_take (i := 11) (oi := ⟨some 42, Op.fieldAddr 52 (Operand.tmp 5) 5, 0, _, _, none⟩) (v := ?va11) rfl (by kernel_rfl) (by kernel_rfl) (by kernel_rfl) (fun _ _ _ h => h) (Or.inl ⟨by rfl, ?ha11⟩) hS0 ?ra11
      case ha11 => (intro wz hSw; go_simp <;> with_reducible rfl)
      (try simp only [Act.put, List.setIfInBounds_toArray, List.set_cons_zero, List.set_cons_succ])
      refine wpAnyH_take (i := 12) (oi := ⟨some 43, Op.load 3 (Operand.tmp 42), 3, _, _, none⟩) (v := ?va12) rfl (by kernel_rfl) (by kernel_rfl) (by kernel_rfl) (fun _ _ _ h => h) (Or.inl ⟨by rfl, ?ha12⟩) hS0 ?ra12
      case ha12 => (intro wz hSw; have z := cellOf1 hSw; go_simp <;> with_reducible rfl)
      (try simp only [Act.put, List.setIfInBounds_toArray, List.set_cons_zero, List.set_cons_succ])
      refine wpAnyH_take (i := 13) (oi := ⟨some 44, Op.fieldAddr 52 (Operand.tmp 5) 6, 0, _, _, none⟩) (v := ?va13) rfl (by kernel_rfl) (by kernel_rfl) (by kernel_rfl) (fun _ _ _ h => h) (Or.inl ⟨by rfl, ?ha13⟩) hS0 ?ra13
      case ha13 => (intro wz hSw; go_simp <;> with_reducible rfl)
      (try simp only [Act.put, List.setIfInBounds_toArray, List.set_cons_zero, List.set_cons_succ])
      refine wpAnyH_take (i := 14) (oi := ⟨some 45, Op.load 4 (Operand.tmp 44), 4, _, _, none⟩) (v := ?va14) rfl (by kernel_rfl) (by kernel_rfl) (by kernel_rfl) (fun _ _ _ h => h) (Or.inl ⟨by rfl, ?ha14⟩) hS0 ?ra14
      case ha14 => (intro wz hSw; have z := cellOf1 hSw; go_simp <;> with_reducible rfl)
      (try simp only [Act.put, List.setIfInBounds_toArray, List.set_cons_zero, List.set_cons_succ])
      refine wpAnyH_take (i := 16) (oi := ⟨some 47, Op.fieldAddr 52 (Operand.tmp 5) 7, 0, _, _, none⟩) (v := ?va16) rfl (by kernel_rfl) (by kernel_rfl) (by kernel_rfl) (fun _ _ _ h => h) (Or.inl ⟨by rfl, ?ha16⟩) hS0 ?ra16
      case ha16 => (intro wz hSw; go_simp <;> with_reducible rfl)
      (try simp only [Act.put, List.setIfInBounds_toArray, List.set_cons_zero, List.set_cons_succ])
      refine wpAnyH_take (i := 17) (oi := ⟨some 48, Op.load 50 (Operand.tmp 47), 50, _, _, none⟩) (v := ?va17) rfl (by kernel_rfl) (by kernel_rfl) (by kernel_rfl) (fun _ _ _ h => h) (Or.inl ⟨by rfl, ?ha17⟩) hS0 ?ra17
      case ha17 => (intro wz hSw; have z := cellOf1 hSw; go_simp <;> with_reducible rfl)
      (try simp only [Act.put, List.setIfInBounds_toArray, List.set_cons_zero, List.set_cons_succ])
      refine wpAnyH_take (i := 18) (oi := ⟨some 49, Op.call { callee := Callee.builtin Builtin.len, args := #[Operand.tmp 48], argTypes := #[50] }, 3, _, _, none⟩) (v := ?va18) rfl (by kernel_rfl) (by kernel_rfl) (by kernel_rfl) (fun _ _ _ h => h) (Or.inl ⟨by rfl, ?ha18⟩) hS0 ?ra18
      case ha18 => (intro wz hSw; go_simp <;> with_reducible rfl)
      (try simp only [Act.put, List.setIfInBounds_toArray, List.set_cons_zero, List.set_cons_succ])
      refine wpAnyH_ready (rs := [15]) (by kernel_rfl) (by simp) ?_
      refine AllReadyH.cons (o := ⟨some 46, Op.call { callee := Callee.value (Operand.func 32), args := #[Operand.tmp 45], argTypes := #[4] }, 3, _, _, none⟩) rfl (fun K hK => ?_) AllReadyH.nil
      go_simp
      (with_reducible refine (rflag_any a.sight _).mono ?_); rintro e w' ⟨rfl, rfl⟩
      refine hK.out _ _ hS0 (fun _ => ?_)
      clear hK K
      (try simp only [Act.put, List.setIfInBounds_toArray, List.set_cons_zero, List.set_cons_succ])
      refine wpAnyH_ready (rs := [19]) (by kernel_rfl) (by simp) ?_
      refine AllReadyH.cons (o := ⟨some 50, Op.buildSlice 35 8 #[(0, Operand.tmp 33), (1, Operand.tmp 35), (2, Operand.tmp 37), (3, Operand.tmp 39), (4, Operand.tmp 41), (5, Operand.tmp 43), (6, Operand.tmp 46), (7, Operand.tmp 49)], 35, _, _, none⟩) rfl (fun K hK => ?_) AllReadyH.nil
      go_simp
      have hB1 := hB0.alloc (.cells (vs .i64 [a.id, a.cast, a.cool, a.charges, a.range, a.cost, b2i a.sight, (a.eff.length : Int)]).toArray 3); have hS1 := hB1.box
      refine hK.out _ _ hS1 (fun _ => ?_)
      clear hK K
      (try simp only [Act.put, List.setIfInBounds_toArray, List.set_cons_zero, List.set_cons_succ])
      refine wpAnyH_ready (rs := [20]) (by kernel_rfl) (by simp) ?_
      refine AllReadyH.cons (o := ⟨some 51, Op.call { callee := Callee.builtin Builtin.append, args := #[Operand.tmp 31, Operand.tmp 50], argTypes := #[35, 35] }, 35, _, _, none⟩) rfl (fun K hK => ?_) AllReadyH.nil
      refine step_appI rfl (.tmp 31) (.tmp 50) rfl V.heap.size (v0.heap.size + 1) A1 c1 l1.length l1 [a.id, a.cast, a.cool, a.charges, a.range, a.cost, b2i a.sight, (a.eff.length : Int)] (some ⟨v0.heap.size, 0, none⟩) 8 8 rfl rfl (by simp [Act.eval]) (by simp [Act.eval]) hB1.own (rd_new v0 _ _ _ rfl) HRm8.out hB1.low.size ?_
      intro A2 c2 w2 l2 HL9 HO9 HS9; replace HL9 := Lib.hid HL9; have hB2 := hB1.step HO9 HS9; have hS2 := hB2.box; clear HO9 HS9
      refine hK.out _ _ hS2 (fun _ => ?_)
      clear hK K
      (try simp only [Act.put, List.setIfInBounds_toArray, List.set_cons_zero, List.set_cons_succ])
      refine wpAnyH_take (i := 21) (oi := ⟨some 3, Op.assign (Operand.tmp 51), 35, _, _, none⟩) (v := ?va21) rfl (by kernel_rfl) (by kernel_rfl) (by kernel_rfl) (fun _ _ _ h => h) (Or.inl ⟨by rfl, ?ha21⟩) hS2 ?ra21
      case ha21 => (intro wz hSw; go_simp <;> with_reducible rfl)
      (try simp only [Act.put, List.setIfInBounds_toArray, List.set_cons_zero, List.set_cons_succ])
      refine wpAnyH_done (by kernel_rfl) ?_ _
      refine NoPanic.normal ?_
      have HB2 := Lib.hid hB2; have HL2 := Lib.hid HL9.out
      clear hB2 hS2 hB1 hS1 hB0 hS0 HL9 hpw
      go_wp2_with (fail)
      generalize wr.heap.size = P at *
      go_loopg [3, 6] a.eff.length (fun m s3 s6 wr => ∃ (j : Nat) (A3 : Option Addr) (c3 : Nat) (l3 : List Int), j ≤ a.eff.length ∧ m = a.eff.length - j ∧ s3 = .slice A3 l3.length c3 ∧ s6 = .int .i64 (j : Int) ∧ Hid (Bx V wr P (.cells #[.int .i64 a.id, .int .i64 a.cast, .int .i64 a.cool, .int .i64 a.charges, .int .i64 a.range, .int .i64 a.cost, .bool a.sight, .slice a.ea a.eff.length a.ec] 52) A3 c3 l3) ∧ Hid (l3 = l2 ++ (a.eff.take j).flatMap fEf))
      case atStart => exact ⟨0, A2, c2, l2, by omega, rfl, rfl, rfl, HB2, Lib.hid (by simp)⟩
      case round =>
        obtain ⟨j, A3, c3, l3, hj, rfl, rfl, rfl, HB3, HE3⟩ := hrel
        have ha := cellOf1 HB3.out.box; have la := lt_blk1 HB3.out.box
        by_cases hjt : j < a.eff.length
        · have hjl' : (j : Int) < a.eff.length := by omega
          have hjb : (j : Int) ≤ 1000000 := by have := HEn.out; omega
          obtain ⟨f, hf⟩ : ∃ f, a.eff[j]? = some f := ⟨_, List.getElem?_eq_getElem hjt⟩
          obtain ⟨p2, off2, hA2, hpl2, _⟩ := rowEf HEf.out hf HB3.out.low HBw.out
          have HFk := Lib.hid hf; have HEa2 := Lib.hid hA2
          have HRm3 : Hid (l3.length + (fEf f).length ≤ 17179869184) := Lib.hid (by
            have h1 := in_row (g := fEf) hf
            have h2 := HRm.out; have h3 := congrArg List.length HE3.out; have h4 := congrArg List.length HL2.out
            simp only [List.length_append, List.length_cons, List.length_nil] at h3 h4
            omega)
          clear hA2 hf
          go_wp2_with (fail)
          have hB0 := HB3.out.drew
          have hS0 : wr.drew.heap[P]? = some (.cells #[.int .i64 a.id, .int .i64 a.cast, .int .i64 a.cool, .int .i64 a.charges, .int .i64 a.range, .int .i64 a.cost, .bool a.sight, .slice a.ea a.eff.length a.ec] 52) ∧ Below V.heap.size V wr.drew := ⟨hB0.box, hB0.low⟩
          refine wp_region_noPanic ?_
          refine wp_region_held_drew (S := fun wz => wz.heap[P]? = some (.cells #[.int .i64 a.id, .int .i64 a.cast, .int .i64 a.cool, .int .i64 a.charges, .int .i64 a.range, .int .i64 a.cost, .bool a.sight, .slice a.ea a.eff.length a.ec] 52) ∧ Below V.heap.size V wz) (by kernel_rfl) hS0 (fun _ => ?_)
          generalize wr.drew = v0 at hB0 hS0 ⊢
          clear ha la
          refine wpAnyH_take (i := 0) (oi := ⟨some 59, Op.move (Operand.tmp 3), 35, _, _, none⟩) (v := ?vb0) rfl (by kernel_rfl) (by kernel_rfl) (by kernel_rfl) (fun _ _ _ h => h) (Or.inl ⟨by rfl, ?hb0⟩) hS0 ?rb0
          case hb0 => (intro wz hSw; go_simp <;> with_reducible rfl)
          (try simp only [Act.put, List.setIfInBounds_toArray, List.set_cons_zero, List.set_cons_succ])
          refine wpAnyH_take (i := 1) (oi := ⟨some 60, Op.fieldAddr 52 (Operand.tmp 5) 7, 0, _, _, none⟩) (v := ?vb1) rfl (by kernel_rfl) (by kernel_rfl) (by kernel_rfl) (fun _ _ _ h => h) (Or.inl ⟨by rfl, ?hb1⟩) hS0 ?rb1
          case hb1 => (intro wz hSw; go_simp <;> with_reducible rfl)
          (try simp only [Act.put, List.setIfInBounds_toArray, List.set_cons_zero, List.set_cons_succ])
          refine wpAnyH_take (i := 2) (oi := ⟨some 61, Op.load 50 (Operand.tmp 60), 50, _, _, none⟩) (v := ?vb2) rfl (by kernel_rfl) (by kernel_rfl) (by kernel_rfl) (fun _ _ _ h => h) (Or.inl ⟨by rfl, ?hb2⟩) hS0 ?rb2
          case hb2 => (intro wz hSw; have z := cellOf1 hSw.1; rw [HEa2.out] at z; go_simp <;> with_reducible rfl)
          (try simp only [Act.put, List.setIfInBounds_toArray, List.set_cons_zero, List.set_cons_succ])
          refine wpAnyH_take (i := 3) (oi := ⟨some 62, Op.move (Operand.tmp 6), 3, _, _, none⟩) (v := ?vb3) rfl (by kernel_rfl) (by kernel_rfl) (by kernel_rfl) (fun _ _ _ h => h) (Or.inl ⟨by rfl, ?hb3⟩) hS0 ?rb3
          case hb3 => (intro wz hSw; go_simp <;> with_reducible rfl)
          (try simp only [Act.put, List.setIfInBounds_toArray, List.set_cons_zero, List.set_cons_succ])
          refine wpAnyH_take (i := 4) (oi := ⟨some 63, Op.indexAddr 50 (Operand.tmp 61) (Operand.tmp 62), 0, _, _, none⟩) (v := ?vb4) rfl (by kernel_rfl) (by kernel_rfl) (by kernel_rfl) (fun _ _ _ h => h) (Or.inl ⟨by rfl, ?hb4⟩) hS0 ?rb4
          case hb4 => (intro wz hSw; go_simp <;> with_reducible rfl)
          (try simp only [Act.put, List.setIfInBounds_toArray, List.set_cons_zero, List.set_cons_succ])
          refine wpAnyH_take (i := 5) (oi := ⟨some 64, Op.fieldAddr 71 (Operand.tmp 63) 0, 0, _, _, none⟩) (v := ?vb5) rfl (by kernel_rfl) (by kernel_rfl) (by kernel_rfl) (fun _ _ _ h => h) (Or.inl ⟨by rfl, ?hb5⟩) hS0 ?rb5
          case hb5 => (intro wz hSw; go_simp <;> with_reducible rfl)
          (try simp only [Act.put, List.setIfInBounds_toArray, List.set_cons_zero, List.set_cons_succ])
          refine wpAnyH_take (i := 6) (oi := ⟨some 65, Op.load 3 (Operand.tmp 64), 3, _, _, none⟩) (v := ?vb6) rfl (by kernel_rfl) (by kernel_rfl) (by kernel_rfl) (fun _ _ _ h => h) (Or.inl ⟨by rfl, ?hb6⟩) hS0 ?rb6
          case hb6 => (intro wz hSw; obtain ⟨q0, q1, q2⟩ := rowEf1 HEf.out HFk.out hSw.2 HBw.out HEa2.out; go_simp <;> with_reducible rfl)
          (try simp only [Act.put, List.setIfInBounds_toArray, List.set_cons_zero, List.set_cons_succ])
          refine wpAnyH_take (i := 7) (oi := ⟨some 66, Op.fieldAddr 52 (Operand.tmp 5) 7, 0, _, _, none⟩) (v := ?vb7) rfl (by kernel_rfl) (by kernel_rfl) (by kernel_rfl) (fun _ _ _ h => h) (Or.inl ⟨by rfl, ?hb7⟩) hS0 ?rb7
          case hb7 => (intro wz hSw; go_simp <;> with_reducible rfl)
          (try simp only [Act.put, List.setIfInBounds_toArray, List.set_cons_zero, List.set_cons_succ])
          refine wpAnyH_take (i := 8) (oi := ⟨some 67, Op.load 50 (Operand.tmp 66), 50, _, _, none⟩) (v := ?vb8) rfl (by kernel_rfl) (by kernel_rfl) (by kernel_rfl) (fun _ _ _ h => h) (Or.inl ⟨by rfl, ?hb8⟩) hS0 ?rb8
          case hb8 => (intro wz hSw; have z := cellOf1 hSw.1; rw [HEa2.out] at z; go_simp <;> with_reducible rfl)
          (try simp only [Act.put, List.setIfInBounds_toArray, List.set_cons_zero, List.set_cons_succ])
          refine wpAnyH_take (i := 9) (oi := ⟨some 68, Op.move (Operand.tmp 6), 3, _, _, none⟩) (v := ?vb9) rfl (by kernel_rfl) (by kernel_rfl) (by kernel_rfl) (fun _ _ _ h => h) (Or.inl ⟨by rfl, ?hb9⟩) hS0 ?rb9
          case hb9 => (intro wz hSw; go_simp <;> with_reducible rfl)
          (try simp only [Act.put, List.setIfInBounds_toArray, List.set_cons_zero, List.set_cons_succ])
          refine wpAnyH_take (i := 10) (oi := ⟨some 69, Op.indexAddr 50 (Operand.tmp 67) (Operand.tmp 68), 0, _, _, none⟩) (v := ?vb10) rfl (by kernel_rfl) (by kernel_rfl) (by kernel_rfl) (fun _ _ _ h => h) (Or.inl ⟨by rfl, ?hb10⟩) hS0 ?rb10
          case hb10 => (intro wz hSw; go_simp <;> with_reducible rfl)
          (try simp only [Act.put, List.setIfInBounds_toArray, List.set_cons_zero, List.set_cons_succ])
          refine wpAnyH_take (i := 11) (oi := ⟨some 70, Op.fieldAddr 71 (Operand.tmp 69) 1, 0, _, _, none⟩) (v := ?vb11) rfl (by kernel_rfl) (by kernel_rfl) (by kernel_rfl) (fun _ _ _ h => h) (Or.inl ⟨by rfl, ?hb11⟩) hS0 ?rb11
          case hb11 => (intro wz hSw; go_simp <;> with_reducible rfl)
          (try simp only [Act.put, List.setIfInBounds_toArray, List.set_cons_zero, List.set_cons_succ])
          refine wpAnyH_take (i := 12) (oi := ⟨some 71, Op.load 3 (Operand.tmp 70), 3, _, _, none⟩) (v := ?vb12) rfl (by kernel_rfl) (by kernel_rfl) (by kernel_rfl) (fun _ _ _ h => h) (Or.inl ⟨by rfl, ?hb12⟩) hS0 ?rb12
          case hb12 => (intro wz hSw; obtain ⟨q0, q1, q2⟩ := rowEf1 HEf.out HFk.out hSw.2 HBw.out HEa2.out; go_simp <;> with_reducible rfl)
          (try simp only [Act.put, List.setIfInBounds_toArray, List.set_cons_zero, List.set_cons_succ])
          refine wpAnyH_take (i := 13) (oi := ⟨some 72, Op.fieldAddr 52 (Operand.tmp 5) 7, 0, _, _, none⟩) (v := ?vb13) rfl (by kernel_rfl) (by kernel_rfl) (by kernel_rfl) (fun _ _ _ h => h) (Or.inl ⟨by rfl, ?hb13⟩) hS0 ?rb13
          case hb13 => (intro wz hSw; go_simp <;> with_reducible rfl)
          (try simp only [Act.put, List.setIfInBounds_toArray, List.set_cons_zero, List.set_cons_succ])
          refine wpAnyH_take (i := 14) (oi := ⟨some 73, Op.load 50 (Operand.tmp 72), 50, _, _, none⟩) (v := ?vb14) rfl (by kernel_rfl) (by kernel_rfl) (by kernel_rfl) (fun _ _ _ h => h) (Or.inl ⟨by rfl, ?hb14⟩) hS0 ?rb14
          case hb14 => (intro wz hSw; have z := cellOf1 hSw.1; rw [HEa2.out] at z; go_simp <;> with_reducible rfl)
          (try simp only [Act.put, List.setIfInBounds_toArray, List.set_cons_zero, List.set_cons_succ])
          refine wpAnyH_take (i := 15) (oi := ⟨some 74, Op.move (Operand.tmp 6), 3, _, _, none⟩) (v := ?vb15) rfl (by kernel_rfl) (by kernel_rfl) (by kernel_rfl) (fun _ _ _ h => h) (Or.inl ⟨by rfl, ?hb15⟩) hS0 ?rb15
          case hb15 => (intro wz hSw; go_simp <;> with_reducible rfl)
          (try simp only [Act.put, List.setIfInBounds_toArray, List.set_cons_zero, List.set_cons_succ])
          refine wpAnyH_take (i := 16) (oi := ⟨some 75, Op.indexAddr 50 (Operand.tmp 73) (Operand.tmp 74), 0, _, _, none⟩) (v := ?vb16) rfl (by kernel_rfl) (by kernel_rfl) (by kernel_rfl) (fun _ _ _ h => h) (Or.inl ⟨by rfl, ?hb16⟩) hS0 ?rb16
          case hb16 => (intro wz hSw; go_simp <;> with_reducible rfl)
          (try simp only [Act.put, List.setIfInBounds_toArray, List.set_cons_zero, List.set_cons_succ])
          refine wpAnyH_take (i := 17) (oi := ⟨some 76, Op.fieldAddr 71 (Operand.tmp 75) 2, 0, _, _, none⟩) (v := ?vb17) rfl (by kernel_rfl) (by kernel_rfl) (by kernel_rfl) (fun _ _ _ h => h) (Or.inl ⟨by rfl, ?hb17⟩) hS0 ?rb17
          case hb17 => (intro wz hSw; go_simp <;> with_reducible rfl)
          (try simp only [Act.put, List.setIfInBounds_toArray, List.set_cons_zero, List.set_cons_succ])
          refine wpAnyH_take (i := 18) (oi := ⟨some 77, Op.load 3 (Operand.tmp 76), 3, _, _, none⟩) (v := ?vb18) rfl (by kernel_rfl) (by kernel_rfl) (by kernel_rfl) (fun _ _ _ h => h) (Or.inl ⟨by rfl, ?hb18⟩) hS0 ?rb18
          case hb18 => (intro wz hSw; obtain ⟨q0, q1, q2⟩ := rowEf1 HEf.out HFk.out hSw.2 HBw.out HEa2.out; go_simp <;> with_reducible rfl)
          (try simp only [Act.put, List.setIfInBounds_toArray, List.set_cons_zero, List.set_cons_succ])
          refine wpAnyH_ready (rs := [19]) (by kernel_rfl) (by simp) ?_
          refine AllReadyH.cons (o := ⟨some 78, Op.buildSlice 35 3 #[(0, Operand.tmp 65), (1, Operand.tmp 71), (2, Operand.tmp 77)], 35, _, _, none⟩) rfl (fun K hK => ?_) AllReadyH.nil
          go_simp
          have hB1 := hB0.alloc (.cells (vs .i64 (fEf f)).toArray 3); have hS1 := And.intro hB1.box hB1.low
          refine hK.out _ _ hS1 (fun _ => ?_)
          clear hK K
          (try simp only [Act.put, List.setIfInBounds_toArray, List.set_cons_zero, List.set_cons_succ])
          refine wpAnyH_ready (rs := [20]) (by kernel_rfl) (by simp) ?_
          refine AllReadyH.cons (o := ⟨some 79, Op.call { callee := Callee.builtin Builtin.append, args := #[Operand.tmp 59, Operand.tmp 78], argTypes := #[35, 35] }, 35, _, _, none⟩) rfl (fun K hK => ?_) AllReadyH.nil
          refine step_appI rfl (.tmp 59) (.tmp 78) rfl V.heap.size (v0.heap.size + 1) A3 c3 l3.length l3 (fEf f) (some ⟨v0.heap.size, 0, none⟩) 3 3 rfl rfl (by simp [Act.eval]) (by simp [Act.eval]) hB1.own (rd_new v0 _ _ _ rfl) HRm3.out hB1.low.size ?_
          intro A4 c4 w4 l4 HL9 HO9 HS9; replace HL9 := Lib.hid HL9; have hB2 := hB1.step HO9 HS9; have hS2 := And.intro hB2.box hB2.low; clear HO9 HS9
          refine hK.out _ _ hS2 (fun _ => ?_)
          clear hK K
          (try simp only [Act.put, List.setIfInBounds_toArray, List.set_cons_zero, List.set_cons_succ])
          refine wpAnyH_take (i := 21) (oi := ⟨some 3, Op.assign (Operand.tmp 79), 35, _, _, none⟩) (v := ?vb21) rfl (by kernel_rfl) (by kernel_rfl) (by kernel_rfl) (fun _ _ _ h => h) (Or.inl ⟨by rfl, ?hb21⟩) hS2 ?rb21
          case hb21 => (intro wz hSw; go_simp <;> with_reducible rfl)
          (try simp only [Act.put, List.setIfInBounds_toArray, List.set_cons_zero, List.set_cons_succ])
          refine wpAnyH_done (by kernel_rfl) ?_ _
          refine NoPanic.normal ?_
          have HB4 := Lib.hid hB2; have HL4 := Lib.hid HL9.out
          clear hB2 hS2 hB1 hS1 hB0 hS0 HL9
          go_wp2_with (fail)
          go_roundg (a.eff.length - (j + 1))
          case measure => omega
          case rel => exact ⟨j + 1, A4, c4, l4, by omega, rfl, rfl, by go_num, HB4, Lib.hid (flat_next HFk.out HE3.out HL4.out)⟩
        · have hjl' : decide (j < a.eff.length) = false := by simp; omega
          go_wp2_with (fail)
          have HFin : Hid (l3 = l1 ++ fAb a) := Lib.hid (by rw [flat_all (by omega) HE3.out, HL2.out]; simp [fAb, fRows])
          go_roundg (x.ab.length - (k + 1))
          case measure => omega
          case rel => exact ⟨k + 1, A3, c3, l3, by omega, rfl, rfl, by go_num, Lib.hid HB3.out.own, Lib.hid HB3.out.low, Lib.hid (flat_next HAk.out HE.out HFin.out)⟩
    · have hkl' : decide (k < x.ab.length) = false := by simp; omega
      have HE1 : Hid (l1 = fRows fAb x.ab) := Lib.hid (by rw [flat_all (by omega) HE.out]; rfl)
      have HRm : Hid (l1.length + [(x.au.length : Int)].length ≤ 17179869184) := Lib.hid (by have := HL.out; rw [HE1.out]; simp; omega)
      go_wp2_with (first
        | (at_builtin; refine Pm.wpList_app (K := .i64) (t := 35) (e := 3) Tryz.underlying35 int_info rfl (by omega) rfl (.tmp 80) (.tmp 84) rfl V.heap.size (wr.heap.size + 1) A1 c1 l1 [(x.au.length : Int)] _ _ rfl rfl (HO1.out.alloc _) (rd_at rfl (by simp) (by simp)) HRm.out (by have := HW.out.size; simp <;> omega) ?_; intro A2 c2 w2 l2 HL2 HO2 HS2))
      have HW2 := Lib.hid (low_step HW.out HO1.out HS2.out)
      have HE2 : Hid (l2 = fRows fAb x.ab ++ [(x.au.length : Int)]) := Lib.hid (by rw [HL2.out, HE1.out])
      clear HE HE1 HRm HL2 HO1 HS2 hc lc HCr HW hkl' hk hlt
      generalize (k : Int) = kk1 at *
      go_loopg [3, 7] x.au.length (fun m s3 s7 wr => ∃ (k : Nat) (A1 : Option Addr) (c1 : Nat) (l1 : List Int), k ≤ x.au.length ∧ m = x.au.length - k ∧ s3 = .slice A1 l1.length c1 ∧ s7 = .int .i64 (k : Int) ∧ Hid (Own wr V.heap.size .i64 3 A1 c1 l1) ∧ Hid (Below V.heap.size V wr) ∧ Hid (l1 = (fRows fAb x.ab ++ [(x.au.length : Int)]) ++ (x.au.take k).flatMap fAu))
      case atStart => exact ⟨0, A2, c2, l2, by omega, rfl, rfl, rfl, HO2, HW2, Lib.hid (by rw [HE2.out]; simp)⟩
      case round =>
        clear HO2 HW2 HE2
        obtain ⟨k, A1, c1, l1, hk, rfl, rfl, rfl, HO1, HW, HE⟩ := hrel
        have HCr := Lib.hid (hkeep1 HW.out HC0.out)
        have hc := cellOf1 HCr.out; have lc := lt_blk1 HCr.out
        by_cases hlt : k < x.au.length
        · have hkl' : (k : Int) < x.au.length := by omega
          have hkb : (k : Int) ≤ 1000000 := by have := HS.out.aus; omega
          obtain ⟨a, ha⟩ : ∃ a, x.au[k]? = some a := ⟨_, List.getElem?_eq_getElem hlt⟩
          obtain ⟨p, off, hA, hpl, q0, q1, q2, q3, q4, q5, q6⟩ := rowAu HR.out.aus ha HW.out HBw.out
          have hpw : p < wr.heap.size := Nat.lt_of_lt_of_le hpl (Nat.le_trans HBw.out HW.out.size)
          have HAk := Lib.hid ha
          have HRm7 : Hid (l1.length + (fAu a).length ≤ 17179869184) := Lib.hid (by
            have h1 := in_row (g := fAu) ha
            have h2 := HL.out; have h3 := congrArg List.length HE.out
            have h4 : (fRows fAu x.au).length = 1 + (x.au.flatMap fAu).length := by simp [fRows]; omega
            simp only [List.length_append, List.length_cons, List.length_nil] at h3
            omega)
          rw [hA] at hc
          clear hA ha
          have hBx0 : Bx V (wr.alloc (.cells #[.int .i64 a.id, .int .i64 a.kind, .int .i64 a.ticks, .int .i64 a.every, .int .i64 a.stacks, .int .i64 a.amount, .bool a.harm] 63)) wr.heap.size (.cells #[.int .i64 a.id, .int .i64 a.kind, .int .i64 a.ticks, .int .i64 a.every, .int .i64 a.stacks, .int .i64 a.amount, .bool a.harm] 63) A1 c1 l1 := Bx.new HO1.out HW.out _
          go_wp2_with (fail)
          have hB0 := hBx0.drew
          have hS0 := hB0.box
          refine wp_region_noPanic ?_
          refine wp_region_held_drew (S := fun wz => wz.heap[wr.heap.size]? = some (.cells #[.int .i64 a.id, .int .i64 a.kind, .int .i64 a.ticks, .int .i64 a.every, .int .i64 a.stacks, .int .i64 a.amount, .bool a.harm] 63)) (by kernel_rfl) hBx0.box (fun _ => ?_)
          generalize (wr.alloc (.cells #[.int .i64 a.id, .int .i64 a.kind, .int .i64 a.ticks, .int .i64 a.every, .int .i64 a.stacks, .int .i64 a.amount, .bool a.harm] 63)).drew = v0 at hB0 hS0 ⊢
          clear hc lc q0 q1 q2 q3 q4 q5 q6 hBx0
          refine wpAnyH_take (i := 0) (oi := ⟨some 98, Op.move (Operand.tmp 3), 35, _, _, none⟩) (v := ?vc0) rfl (by kernel_rfl) (by kernel_rfl) (by kernel_rfl) (fun _ _ _ h => h) (Or.inl ⟨by rfl, ?hc0⟩) hS0 ?rc0
          case hc0 => (intro wz hSw; go_simp <;> with_reducible rfl)
          (try simp only [Act.put, List.setIfInBounds_toArray, List.set_cons_zero, List.set_cons_succ])
          refine wpAnyH_take (i := 1) (oi := ⟨some 99, Op.fieldAddr 63 (Operand.tmp 8) 0, 0, _, _, none⟩) (v := ?vc1) rfl (by kernel_rfl) (by kernel_rfl) (by kernel_rfl) (fun _ _ _ h => h) (Or.inl ⟨by rfl, ?hc1⟩) hS0 ?rc1
          case hc1 => (intro wz hSw; go_simp <;> with_reducible rfl)
          (try simp only [Act.put, List.setIfInBounds_toArray, List.set_cons_zero, List.set_cons_succ])
          refine wpAnyH_take (i := 2) (oi := ⟨some 100, Op.load 3 (Operand.tmp 99), 3, _, _, none⟩) (v := ?vc2) rfl (by kernel_rfl) (by kernel_rfl) (by kernel_rfl) (fun _ _ _ h => h) (Or.inl ⟨by rfl, ?hc2⟩) hS0 ?rc2
          case hc2 => (intro wz hSw; have z := cellOf1 hSw; go_simp <;> with_reducible rfl)
          (try simp only [Act.put, List.setIfInBounds_toArray, List.set_cons_zero, List.set_cons_succ])
          refine wpAnyH_take (i := 3) (oi := ⟨some 101, Op.fieldAddr 63 (Operand.tmp 8) 1, 0, _, _, none⟩) (v := ?vc3) rfl (by kernel_rfl) (by kernel_rfl) (by kernel_rfl) (fun _ _ _ h => h) (Or.inl ⟨by rfl, ?hc3⟩) hS0 ?rc3
          case hc3 => (intro wz hSw; go_simp <;> with_reducible rfl)
          (try simp only [Act.put, List.setIfInBounds_toArray, List.set_cons_zero, List.set_cons_succ])
          refine wpAnyH_take (i := 4) (oi := ⟨some 102, Op.load 3 (Operand.tmp 101), 3, _, _, none⟩) (v := ?vc4) rfl (by kernel_rfl) (by kernel_rfl) (by kernel_rfl) (fun _ _ _ h => h) (Or.inl ⟨by rfl, ?hc4⟩) hS0 ?rc4
          case hc4 => (intro wz hSw; have z := cellOf1 hSw; go_simp <;> with_reducible rfl)
          (try simp only [Act.put, List.setIfInBounds_toArray, List.set_cons_zero, List.set_cons_succ])
          refine wpAnyH_take (i := 5) (oi := ⟨some 103, Op.fieldAddr 63 (Operand.tmp 8) 2, 0, _, _, none⟩) (v := ?vc5) rfl (by kernel_rfl) (by kernel_rfl) (by kernel_rfl) (fun _ _ _ h => h) (Or.inl ⟨by rfl, ?hc5⟩) hS0 ?rc5
          case hc5 => (intro wz hSw; go_simp <;> with_reducible rfl)
          (try simp only [Act.put, List.setIfInBounds_toArray, List.set_cons_zero, List.set_cons_succ])
          refine wpAnyH_take (i := 6) (oi := ⟨some 104, Op.load 3 (Operand.tmp 103), 3, _, _, none⟩) (v := ?vc6) rfl (by kernel_rfl) (by kernel_rfl) (by kernel_rfl) (fun _ _ _ h => h) (Or.inl ⟨by rfl, ?hc6⟩) hS0 ?rc6
          case hc6 => (intro wz hSw; have z := cellOf1 hSw; go_simp <;> with_reducible rfl)
          (try simp only [Act.put, List.setIfInBounds_toArray, List.set_cons_zero, List.set_cons_succ])
          refine wpAnyH_take (i := 7) (oi := ⟨some 105, Op.fieldAddr 63 (Operand.tmp 8) 3, 0, _, _, none⟩) (v := ?vc7) rfl (by kernel_rfl) (by kernel_rfl) (by kernel_rfl) (fun _ _ _ h => h) (Or.inl ⟨by rfl, ?hc7⟩) hS0 ?rc7
          case hc7 => (intro wz hSw; go_simp <;> with_reducible rfl)
          (try simp only [Act.put, List.setIfInBounds_toArray, List.set_cons_zero, List.set_cons_succ])
          refine wpAnyH_take (i := 8) (oi := ⟨some 106, Op.load 3 (Operand.tmp 105), 3, _, _, none⟩) (v := ?vc8) rfl (by kernel_rfl) (by kernel_rfl) (by kernel_rfl) (fun _ _ _ h => h) (Or.inl ⟨by rfl, ?hc8⟩) hS0 ?rc8
          case hc8 => (intro wz hSw; have z := cellOf1 hSw; go_simp <;> with_reducible rfl)
          (try simp only [Act.put, List.setIfInBounds_toArray, List.set_cons_zero, List.set_cons_succ])
          refine wpAnyH_take (i := 9) (oi := ⟨some 107, Op.fieldAddr 63 (Operand.tmp 8) 4, 0, _, _, none⟩) (v := ?vc9) rfl (by kernel_rfl) (by kernel_rfl) (by kernel_rfl) (fun _ _ _ h => h) (Or.inl ⟨by rfl, ?hc9⟩) hS0 ?rc9
          case hc9 => (intro wz hSw; go_simp <;> with_reducible rfl)
          (try simp only [Act.put, List.setIfInBounds_toArray, List.set_cons_zero, List.set_cons_succ])
          refine wpAnyH_take (i := 10) (oi := ⟨some 108, Op.load 3 (Operand.tmp 107), 3, _, _, none⟩) (v := ?vc10) rfl (by kernel_rfl) (by kernel_rfl) (by kernel_rfl) (fun _ _ _ h => h) (Or.inl ⟨by rfl, ?hc10⟩) hS0 ?rc10
          case hc10 => (intro wz hSw; have z := cellOf1 hSw; go_simp <;> with_reducible rfl)
          (try simp only [Act.put, List.setIfInBounds_toArray, List.set_cons_zero, List.set_cons_succ])
          refine wpAnyH_take (i := 11) (oi := ⟨some 109, Op.fieldAddr 63 (Operand.tmp 8) 5, 0, _, _, none⟩) (v := ?vc11) rfl (by kernel_rfl) (by kernel_rfl) (by kernel_rfl) (fun _ _ _ h => h) (Or.inl ⟨by rfl, ?hc11⟩) hS0 ?rc11
          case hc11 => (intro wz hSw; go_simp <;> with_reducible rfl)
          (try simp only [Act.put, List.setIfInBounds_toArray, List.set_cons_zero, List.set_cons_succ])
          refine wpAnyH_take (i := 12) (oi := ⟨some 110, Op.load 3 (Operand.tmp 109), 3, _, _, none⟩) (v := ?vc12) rfl (by kernel_rfl) (by kernel_rfl) (by kernel_rfl) (fun _ _ _ h => h) (Or.inl ⟨by rfl, ?hc12⟩) hS0 ?rc12
          case hc12 => (intro wz hSw; have z := cellOf1 hSw; go_simp <;> with_reducible rfl)
          (try simp only [Act.put, List.setIfInBounds_toArray, List.set_cons_zero, List.set_cons_succ])
          refine wpAnyH_take (i := 13) (oi := ⟨some 111, Op.fieldAddr 63 (Operand.tmp 8) 6, 0, _, _, none⟩) (v := ?vc13) rfl (by kernel_rfl) (by kernel_rfl) (by kernel_rfl) (fun _ _ _ h => h) (Or.inl ⟨by rfl, ?hc13⟩) hS0 ?rc13
          case hc13 => (intro wz hSw; go_simp <;> with_reducible rfl)
          (try simp only [Act.put, List.setIfInBounds_toArray, List.set_cons_zero, List.set_cons_succ])
          refine wpAnyH_take (i := 14) (oi := ⟨some 112, Op.load 4 (Operand.tmp 111), 4, _, _, none⟩) (v := ?vc14) rfl (by kernel_rfl) (by kernel_rfl) (by kernel_rfl) (fun _ _ _ h => h) (Or.inl ⟨by rfl, ?hc14⟩) hS0 ?rc14
          case hc14 => (intro wz hSw; have z := cellOf1 hSw; go_simp <;> with_reducible rfl)
          (try simp only [Act.put, List.setIfInBounds_toArray, List.set_cons_zero, List.set_cons_succ])
          refine wpAnyH_ready (rs := [15]) (by kernel_rfl) (by simp) ?_
          refine AllReadyH.cons (o := ⟨some 113, Op.call { callee := Callee.value (Operand.func 32), args := #[Operand.tmp 112], argTypes := #[4] }, 3, _, _, none⟩) rfl (fun K hK => ?_) AllReadyH.nil
          go_simp
          (with_reducible refine (rflag_any a.harm _).mono ?_); rintro e w' ⟨rfl, rfl⟩
          refine hK.out _ _ hS0 (fun _ => ?_)
          clear hK K
          (try simp only [Act.put, List.setIfInBounds_toArray, List.set_cons_zero, List.set_cons_succ])
          refine wpAnyH_ready (rs := [16]) (by kernel_rfl) (by simp) ?_
          refine AllReadyH.cons (o := ⟨some 114, Op.buildSlice 35 7 #[(0, Operand.tmp 100), (1, Operand.tmp 102), (2, Operand.tmp 104), (3, Operand.tmp 106), (4, Operand.tmp 108), (5, Operand.tmp 110), (6, Operand.tmp 113)], 35, _, _, none⟩) rfl (fun K hK => ?_) AllReadyH.nil
          go_simp
          have hB1 := hB0.alloc (.cells (vs .i64 (fAu a)).toArray 3); have hS1 := hB1.box
          refine hK.out _ _ hS1 (fun _ => ?_)
          clear hK K
          (try simp only [Act.put, List.setIfInBounds_toArray, List.set_cons_zero, List.set_cons_succ])
          refine wpAnyH_ready (rs := [17]) (by kernel_rfl) (by simp) ?_
          refine AllReadyH.cons (o := ⟨some 115, Op.call { callee := Callee.builtin Builtin.append, args := #[Operand.tmp 98, Operand.tmp 114], argTypes := #[35, 35] }, 35, _, _, none⟩) rfl (fun K hK => ?_) AllReadyH.nil
          refine step_appI rfl (.tmp 98) (.tmp 114) rfl V.heap.size (v0.heap.size + 1) A1 c1 l1.length l1 (fAu a) (some ⟨v0.heap.size, 0, none⟩) 7 7 rfl rfl (by simp [Act.eval]) (by simp [Act.eval]) hB1.own (rd_new v0 _ _ _ rfl) HRm7.out hB1.low.size ?_
          intro A2 c2 w2 l2 HL9 HO9 HS9; replace HL9 := Lib.hid HL9; have hB2 := hB1.step HO9 HS9; have hS2 := hB2.box; clear HO9 HS9
          refine hK.out _ _ hS2 (fun _ => ?_)
          clear hK K
          (try simp only [Act.put, List.setIfInBounds_toArray, List.set_cons_zero, List.set_cons_succ])
          refine wpAnyH_take (i := 18) (oi := ⟨some 3, Op.assign (Operand.tmp 115), 35, _, _, none⟩) (v := ?vc18) rfl (by kernel_rfl) (by kernel_rfl) (by kernel_rfl) (fun _ _ _ h => h) (Or.inl ⟨by rfl, ?hc18⟩) hS2 ?rc18
          case hc18 => (intro wz hSw; go_simp <;> with_reducible rfl)
          (try simp only [Act.put, List.setIfInBounds_toArray, List.set_cons_zero, List.set_cons_succ])
          refine wpAnyH_done (by kernel_rfl) ?_ _
          refine NoPanic.normal ?_
          have HB2 := Lib.hid hB2; have HL2 := Lib.hid HL9.out
          clear hB2 hS2 hB1 hS1 hB0 hS0 HL9 hpw
          go_wp2_with (fail)
          go_roundg (x.au.length - (k + 1))
          case measure => omega
          case rel => exact ⟨k + 1, A2, c2, l2, by omega, rfl, rfl, by go_num, Lib.hid HB2.out.own, Lib.hid HB2.out.low, Lib.hid (flat_next HAk.out HE.out HL2.out)⟩
        · have hkl' : decide (k < x.au.length) = false := by simp; omega
          have HE1 : Hid (l1 = fRows fAb x.ab ++ fRows fAu x.au) := Lib.hid (by rw [flat_all (by omega) HE.out]; simp [fRows])
          have HRm : Hid (l1.length + [(x.fo.length : Int)].length ≤ 17179869184) := Lib.hid (by have := HL.out; rw [HE1.out]; simp; omega)
          go_wp2_with (first
            | (at_builtin; refine Pm.wpList_app (K := .i64) (t := 35) (e := 3) Tryz.underlying35 int_info rfl (by omega) rfl (.tmp 116) (.tmp 120) rfl V.heap.size (wr.heap.size + 1) A1 c1 l1 [(x.fo.length : Int)] _ _ rfl rfl (HO1.out.alloc _) (rd_at rfl (by simp) (by simp)) HRm.out (by have := HW.out.size; simp <;> omega) ?_; intro A2 c2 w2 l2 HL2 HO2 HS2))
          have HW2 := Lib.hid (low_step HW.out HO1.out HS2.out)
          have HE2 : Hid (l2 = (fRows fAb x.ab ++ fRows fAu x.au) ++ [(x.fo.length : Int)]) := Lib.hid (by rw [HL2.out, HE1.out])
          clear HE HE1 HRm HL2 HO1 HS2 hc lc HCr HW hkl' hk hlt
          generalize (k : Int) = kk2 at *
          go_loopg [3, 9] x.fo.length (fun m s3 s9 wr => ∃ (k : Nat) (A1 : Option Addr) (c1 : Nat) (l1 : List Int), k ≤ x.fo.length ∧ m = x.fo.length - k ∧ s3 = .slice A1 l1.length c1 ∧ s9 = .int .i64 (k : Int) ∧ Hid (Own wr V.heap.size .i64 3 A1 c1 l1) ∧ Hid (Below V.heap.size V wr) ∧ Hid (l1 = ((fRows fAb x.ab ++ fRows fAu x.au) ++ [(x.fo.length : Int)]) ++ (x.fo.take k).flatMap fFo))
          case atStart => exact ⟨0, A2, c2, l2, by omega, rfl, rfl, rfl, HO2, HW2, Lib.hid (by rw [HE2.out]; simp)⟩
          case round =>
            clear HO2 HW2 HE2
            obtain ⟨k, A1, c1, l1, hk, rfl, rfl, rfl, HO1, HW, HE⟩ := hrel
            have HCr := Lib.hid (hkeep1 HW.out HC0.out)
            have hc := cellOf1 HCr.out; have lc := lt_blk1 HCr.out
            by_cases hlt : k < x.fo.length
            · have hkl' : (k : Int) < x.fo.length := by omega
              have hkb : (k : Int) ≤ 1000000 := by have := HS.out.fos; omega
              obtain ⟨a, ha⟩ : ∃ a, x.fo[k]? = some a := ⟨_, List.getElem?_eq_getElem hlt⟩
              obtain ⟨p, off, hA, hpl, q0, q1, q2, q3, q4, q5, q6, q7⟩ := rowFo HR.out.fos ha HW.out HBw.out
              have hpw : p < wr.heap.size := Nat.lt_of_lt_of_le hpl (Nat.le_trans HBw.out HW.out.size)
              have HAk := Lib.hid ha
              have HSc := Lib.hid (HR.out.scrs a (List.mem_of_getElem? ha)); have HHo := Lib.hid (HR.out.hors a (List.mem_of_getElem? ha))
              have HSn := Lib.hid (HS.out.scrs a (List.mem_of_getElem? ha)); have HHn := Lib.hid (HS.out.hors a (List.mem_of_getElem? ha))
              have HRf : Hid (l1.length + 8 + (a.script.flatMap fLn).length + (a.hoard.flatMap fPz).length ≤ 1000020) := Lib.hid (by
                have h1 := in_row (g := fFo) ha
                have h2 := HL.out; have h3 := congrArg List.length HE.out
                have h4 : (fRows fFo x.fo).length = 1 + (x.fo.flatMap fFo).length := by simp [fRows]; omega
                have h5 : (fFo a).length = 8 + (a.script.flatMap fLn).length + (a.hoard.flatMap fPz).length := by simp [fFo, fRows]; omega
                simp only [List.length_append, List.length_cons, List.length_nil] at h3
                omega)
              have HRm : Hid (l1.length + [a.id, a.health, a.hit, a.every, a.reach, a.drops, (a.script.length : Int)].length ≤ 17179869184) := Lib.hid (by have := HRf.out; simp; omega)
              rw [hA] at hc
              clear hA ha
              have HBx0 := Lib.hid (Bx.new HO1.out HW.out (.cells #[.int .i64 a.id, .int .i64 a.health, .int .i64 a.hit, .int .i64 a.every, .int .i64 a.reach, .slice a.sa a.script.length a.sc, .slice a.ha a.hoard.length a.hc, .int .i64 a.drops] 56))
              go_wp2_with (first
                | (at_builtin; refine Pm.wpList_app (K := .i64) (t := 35) (e := 3) Tryz.underlying35 int_info rfl (by omega) rfl (.tmp 134) (.tmp 150) rfl V.heap.size (wr.heap.size + 1 + 1) A1 c1 l1 [a.id, a.health, a.hit, a.every, a.reach, a.drops, (a.script.length : Int)] _ _ rfl rfl (HBx0.out.own.alloc _) (rd_at rfl (by simp) (by simp)) HRm.out (by have := HW.out.size; simp <;> omega) ?_; intro A2 c2 w2 l2 HL2 HO2 HS2))
              have HB2 := Lib.hid ((HBx0.out.alloc _).step HO2.out HS2.out)
              clear hpw q0 q1 q2 q3 q4 q5 q6 q7 hc lc HCr HBx0 HO2 HS2 HRm
              have HW8 := Lib.hid HW.out.size
              generalize wr.heap.size = P at *
              go_loopg [3, 11] a.script.length (fun m s3 s11 wr => ∃ (j : Nat) (A3 : Option Addr) (c3 : Nat) (l3 : List Int), j ≤ a.script.length ∧ m = a.script.length - j ∧ s3 = .slice A3 l3.length c3 ∧ s11 = .int .i64 (j : Int) ∧ Hid (Bx V wr P (.cells #[.int .i64 a.id, .int .i64 a.health, .int .i64 a.hit, .int .i64 a.every, .int .i64 a.reach, .slice a.sa a.script.length a.sc, .slice a.ha a.hoard.length a.hc, .int .i64 a.drops] 56) A3 c3 l3) ∧ Hid (l3 = l2 ++ (a.script.take j).flatMap fLn))
              case atStart => exact ⟨0, A2, c2, l2, by omega, rfl, rfl, rfl, HB2, Lib.hid (by simp)⟩
              case round =>
                obtain ⟨j, A3, c3, l3, hj, rfl, rfl, rfl, HB3, HE3⟩ := hrel
                have ha := cellOf1 HB3.out.box; have la := lt_blk1 HB3.out.box
                by_cases hjt : j < a.script.length
                · have hjl' : (j : Int) < a.script.length := by omega
                  have hjb : (j : Int) ≤ 1000000 := by have := HSn.out; omega
                  obtain ⟨f, hf⟩ : ∃ f, a.script[j]? = some f := ⟨_, List.getElem?_eq_getElem hjt⟩
                  obtain ⟨p2, off2, hA2, hpl2, q0, q1, q2, q3, q4⟩ := rowLn HSc.out hf HB3.out.low HBw.out
                  have hpw2 : p2 < wr.heap.size := Nat.lt_of_lt_of_le hpl2 (Nat.le_trans HBw.out HB3.out.low.size)
                  have HFk := Lib.hid hf
                  have HRm3 : Hid (l3.length + (fLn f).length ≤ 17179869184) := Lib.hid (by
                    have h1 := in_row (g := fLn) hf
                    have h2 := HRf.out; have h3 := congrArg List.length HE3.out; have h4 := congrArg List.length HL2.out
                    simp only [List.length_append, List.length_cons, List.length_nil] at h3 h4
                    omega)
                  rw [hA2] at ha
                  clear hA2 hf
                  go_wp2_with (first
                    | (at_builtin; refine Pm.wpList_app (K := .i64) (t := 35) (e := 3) Tryz.underlying35 int_info rfl (by omega) rfl (.tmp 164) (.tmp 175) rfl V.heap.size (wr.heap.size + 1 + 1) A3 c3 l3 (fLn f) _ _ rfl rfl ((HB3.out.own.alloc _).alloc _) (rd_at rfl (by simp) (by simp)) HRm3.out (by have := HB3.out.low.size; simp <;> omega) ?_; intro A4 c4 w4 l4 HL4 HO4 HS4))
                  have HB4 := Lib.hid (((HB3.out.alloc _).alloc _).step HO4.out HS4.out)
                  go_roundg (a.script.length - (j + 1))
                  case measure => omega
                  case rel => exact ⟨j + 1, A4, c4, l4, by omega, rfl, rfl, by go_num, HB4, Lib.hid (flat_next HFk.out HE3.out HL4.out)⟩
                · have hjl' : decide (j < a.script.length) = false := by simp; omega
                  have HF3 : Hid (l3 = l2 ++ a.script.flatMap fLn) := Lib.hid (flat_all (by omega) HE3.out)
                  have HRmh : Hid (l3.length + [(a.hoard.length : Int)].length ≤ 17179869184) := Lib.hid (by
                    have h2 := HRf.out; have h3 := congrArg List.length HF3.out; have h4 := congrArg List.length HL2.out
                    simp only [List.length_append, List.length_cons, List.length_nil] at h3 h4 ⊢
                    omega)
                  go_wp2_with (first
                    | (at_builtin; refine Pm.wpList_app (K := .i64) (t := 35) (e := 3) Tryz.underlying35 int_info rfl (by omega) rfl (.tmp 177) (.tmp 181) rfl V.heap.size (wr.heap.size + 1) A3 c3 l3 [(a.hoard.length : Int)] _ _ rfl rfl (HB3.out.own.alloc _) (rd_at rfl (by simp) (by simp)) HRmh.out (by have := HB3.out.low.size; simp <;> omega) ?_; intro A5 c5 w5 l5 HL5 HO5 HS5))
                  have HB5 := Lib.hid ((HB3.out.alloc _).step HO5.out HS5.out)
                  have HE5 : Hid (l5 = l2 ++ fFoT a) := Lib.hid (by rw [HL5.out, HF3.out]; simp [fFoT])
                  clear ha la HB3 HE3 HF3 HRmh HL5 HO5 HS5 hjl' hjt hj HB2
                  generalize (j : Int) = jj1 at *
                  go_loopg [3, 13] a.hoard.length (fun m s3 s13 wr => ∃ (j : Nat) (A3 : Option Addr) (c3 : Nat) (l3 : List Int), j ≤ a.hoard.length ∧ m = a.hoard.length - j ∧ s3 = .slice A3 l3.length c3 ∧ s13 = .int .i64 (j : Int) ∧ Hid (Bx V wr P (.cells #[.int .i64 a.id, .int .i64 a.health, .int .i64 a.hit, .int .i64 a.every, .int .i64 a.reach, .slice a.sa a.script.length a.sc, .slice a.ha a.hoard.length a.hc, .int .i64 a.drops] 56) A3 c3 l3) ∧ Hid (l3 = l5 ++ (a.hoard.take j).flatMap fPz))
                  case atStart => exact ⟨0, A5, c5, l5, by omega, rfl, rfl, rfl, HB5, Lib.hid (by simp)⟩
                  case round =>
                    clear HB5
                    obtain ⟨j, A3, c3, l3, hj, rfl, rfl, rfl, HB3, HE3⟩ := hrel
                    have ha := cellOf1 HB3.out.box; have la := lt_blk1 HB3.out.box
                    by_cases hjt : j < a.hoard.length
                    · have hjl' : (j : Int) < a.hoard.length := by omega
                      have hjb : (j : Int) ≤ 1000000 := by have := HHn.out; omega
                      obtain ⟨f, hf⟩ : ∃ f, a.hoard[j]? = some f := ⟨_, List.getElem?_eq_getElem hjt⟩
                      obtain ⟨p2, off2, hA2, hpl2, _⟩ := rowPz HHo.out hf HB3.out.low HBw.out
                      have HFk := Lib.hid hf; have HEa2 := Lib.hid hA2
                      have HRm3 : Hid (l3.length + (fPz f).length ≤ 17179869184) := Lib.hid (by
                        have h1 := in_row (g := fPz) hf
                        have h2 := HRf.out; have h3 := congrArg List.length HE3.out; have h4 := congrArg List.length HE5.out; have h5 := congrArg List.length HL2.out
                        simp only [List.length_append, List.length_cons, List.length_nil, fFoT] at h3 h4 h5
                        omega)
                      clear hA2 hf
                      go_wp2_with (fail)
                      have hB0 := HB3.out.drew
                      have hS0 : wr.drew.heap[P]? = some (.cells #[.int .i64 a.id, .int .i64 a.health, .int .i64 a.hit, .int .i64 a.every, .int .i64 a.reach, .slice a.sa a.script.length a.sc, .slice a.ha a.hoard.length a.hc, .int .i64 a.drops] 56) ∧ Below V.heap.size V wr.drew := ⟨hB0.box, hB0.low⟩
                      refine wp_region_noPanic ?_
                      refine wp_region_held_drew (S := fun wz => wz.heap[P]? = some (.cells #[.int .i64 a.id, .int .i64 a.health, .int .i64 a.hit, .int .i64 a.every, .int .i64 a.reach, .slice a.sa a.script.length a.sc, .slice a.ha a.hoard.length a.hc, .int .i64 a.drops] 56) ∧ Below V.heap.size V wz) (by kernel_rfl) hS0 (fun _ => ?_)
                      generalize wr.drew = v0 at hB0 hS0 ⊢
                      clear ha la
                      refine wpAnyH_take (i := 0) (oi := ⟨some 190, Op.move (Operand.tmp 3), 35, _, _, none⟩) (v := ?vd0) rfl (by kernel_rfl) (by kernel_rfl) (by kernel_rfl) (fun _ _ _ h => h) (Or.inl ⟨by rfl, ?hd0⟩) hS0 ?rd0
                      case hd0 => (intro wz hSw; go_simp <;> with_reducible rfl)
                      (try simp only [Act.put, List.setIfInBounds_toArray, List.set_cons_zero, List.set_cons_succ])
                      refine wpAnyH_take (i := 1) (oi := ⟨some 191, Op.fieldAddr 56 (Operand.tmp 10) 6, 0, _, _, none⟩) (v := ?vd1) rfl (by kernel_rfl) (by kernel_rfl) (by kernel_rfl) (fun _ _ _ h => h) (Or.inl ⟨by rfl, ?hd1⟩) hS0 ?rd1
                      case hd1 => (intro wz hSw; go_simp <;> with_reducible rfl)
                      (try simp only [Act.put, List.setIfInBounds_toArray, List.set_cons_zero, List.set_cons_succ])
                      refine wpAnyH_take (i := 2) (oi := ⟨some 192, Op.load 54 (Operand.tmp 191), 54, _, _, none⟩) (v := ?vd2) rfl (by kernel_rfl) (by kernel_rfl) (by kernel_rfl) (fun _ _ _ h => h) (Or.inl ⟨by rfl, ?hd2⟩) hS0 ?rd2
                      case hd2 => (intro wz hSw; have z := cellOf1 hSw.1; rw [HEa2.out] at z; go_simp <;> with_reducible rfl)
                      (try simp only [Act.put, List.setIfInBounds_toArray, List.set_cons_zero, List.set_cons_succ])
                      refine wpAnyH_take (i := 3) (oi := ⟨some 193, Op.move (Operand.tmp 13), 3, _, _, none⟩) (v := ?vd3) rfl (by kernel_rfl) (by kernel_rfl) (by kernel_rfl) (fun _ _ _ h => h) (Or.inl ⟨by rfl, ?hd3⟩) hS0 ?rd3
                      case hd3 => (intro wz hSw; go_simp <;> with_reducible rfl)
                      (try simp only [Act.put, List.setIfInBounds_toArray, List.set_cons_zero, List.set_cons_succ])
                      refine wpAnyH_take (i := 4) (oi := ⟨some 194, Op.indexAddr 54 (Operand.tmp 192) (Operand.tmp 193), 0, _, _, none⟩) (v := ?vd4) rfl (by kernel_rfl) (by kernel_rfl) (by kernel_rfl) (fun _ _ _ h => h) (Or.inl ⟨by rfl, ?hd4⟩) hS0 ?rd4
                      case hd4 => (intro wz hSw; go_simp <;> with_reducible rfl)
                      (try simp only [Act.put, List.setIfInBounds_toArray, List.set_cons_zero, List.set_cons_succ])
                      refine wpAnyH_take (i := 5) (oi := ⟨some 195, Op.fieldAddr 75 (Operand.tmp 194) 0, 0, _, _, none⟩) (v := ?vd5) rfl (by kernel_rfl) (by kernel_rfl) (by kernel_rfl) (fun _ _ _ h => h) (Or.inl ⟨by rfl, ?hd5⟩) hS0 ?rd5
                      case hd5 => (intro wz hSw; go_simp <;> with_reducible rfl)
                      (try simp only [Act.put, List.setIfInBounds_toArray, List.set_cons_zero, List.set_cons_succ])
                      refine wpAnyH_take (i := 6) (oi := ⟨some 196, Op.load 3 (Operand.tmp 195), 3, _, _, none⟩) (v := ?vd6) rfl (by kernel_rfl) (by kernel_rfl) (by kernel_rfl) (fun _ _ _ h => h) (Or.inl ⟨by rfl, ?hd6⟩) hS0 ?rd6
                      case hd6 => (intro wz hSw; obtain ⟨q0, q1⟩ := rowPz1 HHo.out HFk.out hSw.2 HBw.out HEa2.out; go_simp <;> with_reducible rfl)
                      (try simp only [Act.put, List.setIfInBounds_toArray, List.set_cons_zero, List.set_cons_succ])
                      refine wpAnyH_take (i := 7) (oi := ⟨some 197, Op.fieldAddr 56 (Operand.tmp 10) 6, 0, _, _, none⟩) (v := ?vd7) rfl (by kernel_rfl) (by kernel_rfl) (by kernel_rfl) (fun _ _ _ h => h) (Or.inl ⟨by rfl, ?hd7⟩) hS0 ?rd7
                      case hd7 => (intro wz hSw; go_simp <;> with_reducible rfl)
                      (try simp only [Act.put, List.setIfInBounds_toArray, List.set_cons_zero, List.set_cons_succ])
                      refine wpAnyH_take (i := 8) (oi := ⟨some 198, Op.load 54 (Operand.tmp 197), 54, _, _, none⟩) (v := ?vd8) rfl (by kernel_rfl) (by kernel_rfl) (by kernel_rfl) (fun _ _ _ h => h) (Or.inl ⟨by rfl, ?hd8⟩) hS0 ?rd8
                      case hd8 => (intro wz hSw; have z := cellOf1 hSw.1; rw [HEa2.out] at z; go_simp <;> with_reducible rfl)
                      (try simp only [Act.put, List.setIfInBounds_toArray, List.set_cons_zero, List.set_cons_succ])
                      refine wpAnyH_take (i := 9) (oi := ⟨some 199, Op.move (Operand.tmp 13), 3, _, _, none⟩) (v := ?vd9) rfl (by kernel_rfl) (by kernel_rfl) (by kernel_rfl) (fun _ _ _ h => h) (Or.inl ⟨by rfl, ?hd9⟩) hS0 ?rd9
                      case hd9 => (intro wz hSw; go_simp <;> with_reducible rfl)
                      (try simp only [Act.put, List.setIfInBounds_toArray, List.set_cons_zero, List.set_cons_succ])
                      refine wpAnyH_take (i := 10) (oi := ⟨some 200, Op.indexAddr 54 (Operand.tmp 198) (Operand.tmp 199), 0, _, _, none⟩) (v := ?vd10) rfl (by kernel_rfl) (by kernel_rfl) (by kernel_rfl) (fun _ _ _ h => h) (Or.inl ⟨by rfl, ?hd10⟩) hS0 ?rd10
                      case hd10 => (intro wz hSw; go_simp <;> with_reducible rfl)
                      (try simp only [Act.put, List.setIfInBounds_toArray, List.set_cons_zero, List.set_cons_succ])
                      refine wpAnyH_take (i := 11) (oi := ⟨some 201, Op.fieldAddr 75 (Operand.tmp 200) 1, 0, _, _, none⟩) (v := ?vd11) rfl (by kernel_rfl) (by kernel_rfl) (by kernel_rfl) (fun _ _ _ h => h) (Or.inl ⟨by rfl, ?hd11⟩) hS0 ?rd11
                      case hd11 => (intro wz hSw; go_simp <;> with_reducible rfl)
                      (try simp only [Act.put, List.setIfInBounds_toArray, List.set_cons_zero, List.set_cons_succ])
                      refine wpAnyH_take (i := 12) (oi := ⟨some 202, Op.load 3 (Operand.tmp 201), 3, _, _, none⟩) (v := ?vd12) rfl (by kernel_rfl) (by kernel_rfl) (by kernel_rfl) (fun _ _ _ h => h) (Or.inl ⟨by rfl, ?hd12⟩) hS0 ?rd12
                      case hd12 => (intro wz hSw; obtain ⟨q0, q1⟩ := rowPz1 HHo.out HFk.out hSw.2 HBw.out HEa2.out; go_simp <;> with_reducible rfl)
                      (try simp only [Act.put, List.setIfInBounds_toArray, List.set_cons_zero, List.set_cons_succ])
                      refine wpAnyH_ready (rs := [13]) (by kernel_rfl) (by simp) ?_
                      refine AllReadyH.cons (o := ⟨some 203, Op.buildSlice 35 2 #[(0, Operand.tmp 196), (1, Operand.tmp 202)], 35, _, _, none⟩) rfl (fun K hK => ?_) AllReadyH.nil
                      go_simp
                      have hB1 := hB0.alloc (.cells (vs .i64 (fPz f)).toArray 3); have hS1 := And.intro hB1.box hB1.low
                      refine hK.out _ _ hS1 (fun _ => ?_)
                      clear hK K
                      (try simp only [Act.put, List.setIfInBounds_toArray, List.set_cons_zero, List.set_cons_succ])
                      refine wpAnyH_ready (rs := [14]) (by kernel_rfl) (by simp) ?_
                      refine AllReadyH.cons (o := ⟨some 204, Op.call { callee := Callee.builtin Builtin.append, args := #[Operand.tmp 190, Operand.tmp 203], argTypes := #[35, 35] }, 35, _, _, none⟩) rfl (fun K hK => ?_) AllReadyH.nil
                      refine step_appI rfl (.tmp 190) (.tmp 203) rfl V.heap.size (v0.heap.size + 1) A3 c3 l3.length l3 (fPz f) (some ⟨v0.heap.size, 0, none⟩) 2 2 rfl rfl (by simp [Act.eval]) (by simp [Act.eval]) hB1.own (rd_new v0 _ _ _ rfl) HRm3.out hB1.low.size ?_
                      intro A4 c4 w4 l4 HL9 HO9 HS9; replace HL9 := Lib.hid HL9; have hB2 := hB1.step HO9 HS9; have hS2 := And.intro hB2.box hB2.low; clear HO9 HS9
                      refine hK.out _ _ hS2 (fun _ => ?_)
                      clear hK K
                      (try simp only [Act.put, List.setIfInBounds_toArray, List.set_cons_zero, List.set_cons_succ])
                      refine wpAnyH_take (i := 15) (oi := ⟨some 3, Op.assign (Operand.tmp 204), 35, _, _, none⟩) (v := ?vd15) rfl (by kernel_rfl) (by kernel_rfl) (by kernel_rfl) (fun _ _ _ h => h) (Or.inl ⟨by rfl, ?hd15⟩) hS2 ?rd15
                      case hd15 => (intro wz hSw; go_simp <;> with_reducible rfl)
                      (try simp only [Act.put, List.setIfInBounds_toArray, List.set_cons_zero, List.set_cons_succ])
                      refine wpAnyH_done (by kernel_rfl) ?_ _
                      refine NoPanic.normal ?_
                      have HB4 := Lib.hid hB2; have HL4 := Lib.hid HL9.out
                      clear hB2 hS2 hB1 hS1 hB0 hS0 HL9
                      go_wp2_with (fail)
                      go_roundg (a.hoard.length - (j + 1))
                      case measure => omega
                      case rel => exact ⟨j + 1, A4, c4, l4, by omega, rfl, rfl, by go_num, HB4, Lib.hid (flat_next HFk.out HE3.out HL4.out)⟩
                    · have hjl' : decide (j < a.hoard.length) = false := by simp; omega
                      go_wp2_with (fail)
                      have HFin : Hid (l3 = l1 ++ fFo a) := Lib.hid (by rw [flat_all (by omega) HE3.out, HE5.out, HL2.out]; simp [fFo, fFoT, fRows])
                      go_roundg (x.fo.length - (k + 1))
                      case measure => omega
                      case rel => exact ⟨k + 1, A3, c3, l3, by omega, rfl, rfl, by go_num, Lib.hid HB3.out.own, Lib.hid HB3.out.low, Lib.hid (flat_next HAk.out HE.out HFin.out)⟩
            · have hkl' : decide (k < x.fo.length) = false := by simp; omega
              have HE1 : Hid (l1 = fRows fAb x.ab ++ fRows fAu x.au ++ fRows fFo x.fo) := Lib.hid (by rw [flat_all (by omega) HE.out]; simp [fRows])
              have HRm : Hid (l1.length + [x.W, x.H, (x.wl.length : Int)].length ≤ 17179869184) := Lib.hid (by have := HL.out; rw [HE1.out]; simp; omega)
              go_wp2_with (first
                | (at_builtin; refine Pm.wpList_app (K := .i64) (t := 35) (e := 3) Tryz.underlying35 int_info rfl (by omega) rfl (.tmp 205) (.tmp 216) rfl V.heap.size (wr.heap.size + 1) A1 c1 l1 [x.W, x.H, (x.wl.length : Int)] _ _ rfl rfl (HO1.out.alloc _) (rd_at rfl (by simp) (by simp)) HRm.out (by have := HW.out.size; simp <;> omega) ?_; intro A2 c2 w2 l2 HL2 HO2 HS2))
              have HW2 := Lib.hid (low_step HW.out HO1.out HS2.out)
              have HE2 : Hid (l2 = (fRows fAb x.ab ++ fRows fAu x.au ++ fRows fFo x.fo) ++ [x.W, x.H, (x.wl.length : Int)]) := Lib.hid (by rw [HL2.out, HE1.out])
              clear HE HE1 HRm HL2 HO1 HS2 hc lc HCr HW hkl' hk hlt
              generalize (k : Int) = kk3 at *
              go_loopg [3, 14] x.wl.length (fun m s3 s14 wr => ∃ (k : Nat) (A1 : Option Addr) (c1 : Nat) (l1 : List Int), k ≤ x.wl.length ∧ m = x.wl.length - k ∧ s3 = .slice A1 l1.length c1 ∧ s14 = .int .i64 (k : Int) ∧ Hid (Own wr V.heap.size .i64 3 A1 c1 l1) ∧ Hid (Below V.heap.size V wr) ∧ Hid (l1 = ((fRows fAb x.ab ++ fRows fAu x.au ++ fRows fFo x.fo) ++ [x.W, x.H, (x.wl.length : Int)]) ++ (x.wl.take k).flatMap fTr))
              case atStart => exact ⟨0, A2, c2, l2, by omega, rfl, rfl, rfl, HO2, HW2, Lib.hid (by rw [HE2.out]; simp)⟩
              case round =>
                clear HO2 HW2 HE2
                obtain ⟨k, A1, c1, l1, hk, rfl, rfl, rfl, HO1, HW, HE⟩ := hrel
                have HCr := Lib.hid (hkeep1 HW.out HC0.out)
                have hc := cellOf1 HCr.out; have lc := lt_blk1 HCr.out
                by_cases hlt : k < x.wl.length
                · have hkl' : (k : Int) < x.wl.length := by omega
                  have hkb : (k : Int) ≤ 1000000 := by have := HS.out.wls; omega
                  obtain ⟨a, ha⟩ : ∃ a, x.wl[k]? = some a := ⟨_, List.getElem?_eq_getElem hlt⟩
                  obtain ⟨p, off, hA, hpl, q0⟩ := rowBo1 HR.out.wls ha HW.out HBw.out
                  have hpw : p < wr.heap.size := Nat.lt_of_lt_of_le hpl (Nat.le_trans HBw.out HW.out.size)
                  have HAk := Lib.hid ha
                  have HRm : Hid (l1.length + (fTr a).length ≤ 17179869184) := Lib.hid (by
                    have h1 := in_row (g := fTr) ha
                    have h2 := HL.out; have h3 := congrArg List.length HE.out
                    have h4 : (fRows fTr x.wl).length = 1 + (x.wl.flatMap fTr).length := by simp [fRows]; omega
                    simp only [List.length_append, List.length_cons, List.length_nil] at h3
                    omega)
                  rw [hA] at hc
                  clear hA ha
                  go_wp2_with (first
                    | ((with_reducible refine (rflag_any a _).mono ?_); rintro e w' ⟨rfl, rfl⟩)
                    | (at_builtin; refine Pm.wpList_app (K := .i64) (t := 35) (e := 3) Tryz.underlying35 int_info rfl (by omega) rfl (.tmp 226) (.tmp 234) rfl V.heap.size (wr.heap.size + 1) A1 c1 l1 (fTr a) _ _ rfl rfl (HO1.out.alloc _) (rd_at rfl (by simp) (by simp)) HRm.out (by have := HW.out.size; simp <;> omega) ?_; intro A2 c2 w2 l2 HL2 HO2 HS2))
                  have HW2 := Lib.hid (low_step HW.out HO1.out HS2.out)
                  go_roundg (x.wl.length - (k + 1))
                  case measure => omega
                  case rel => exact ⟨k + 1, A2, c2, l2, by omega, rfl, rfl, by go_num, HO2, HW2, Lib.hid (flat_next HAk.out HE.out HL2.out)⟩
                · have hkl' : decide (k < x.wl.length) = false := by simp; omega
                  have HE1 := Lib.hid (flat_all (by omega) HE.out)
                  have h4 : (fRows fTr x.wl).length = 1 + (x.wl.flatMap fTr).length := by simp [fRows]; omega
                  have HRm : Hid (l1.length + [x.dx, x.dy, x.lx, x.ly].length ≤ 17179869184) := Lib.hid (by have h5 := HL.out; rw [HE1.out]; simp only [List.length_append, List.length_cons, List.length_nil]; omega)
                  clear h4
                  go_wp2_with (first
                    | (at_builtin; refine Pm.wpList_app (K := .i64) (t := 35) (e := 3) Tryz.underlying35 int_info rfl (by omega) rfl (.tmp 236) (.tmp 249) rfl V.heap.size (wr.heap.size + 1) A1 c1 l1 [x.dx, x.dy, x.lx, x.ly] _ _ rfl rfl (HO1.out.alloc _) (rd_at rfl (by simp) (by simp)) HRm.out (by have := HW.out.size; simp <;> omega) ?_; intro A2 c2 w2 l2 HL2 HO2 HS2))
                  have HW2 := Lib.hid (low_step HW.out HO1.out HS2.out)
                  go_ret
                  exact ⟨l2, A2, c2, Lib.hid (by rw [HL2.out, HE1.out]; simp [fCn, fRows]), rfl, Lib.hid (own_base HO2.out (by have := HVw.out; omega)), Lib.hid (HB.out.trans (HW2.out.mono HB.out.size))⟩
end Go.Proofs.YtpjenkgimkndaaaGreat.Con
