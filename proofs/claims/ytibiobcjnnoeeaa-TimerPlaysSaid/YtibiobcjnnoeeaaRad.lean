/-
  Contracts of the document's queue: Add, Next.
-/
import Derived.Test.YtibiobcjnnoeeaaRof
import Derived.BigQuiet
namespace Go.Proofs.Ytibiobcjnnoeeaa.Con
open Go.RowKit Tmr Go.Maps

section
variable {w w' : World} {base gb : Nat} {A : Option Addr} {c : Nat} {S : List Tm} {last : Int}
theorem RQ.lst (h : RQ w base gb A c S last) (m : Int) (hm : last + 1 = m) (hb : m ≤ 100000) : Hid (RQ (w.setCell ⟨gb, 1, none⟩ (.int .i64 m)) base gb A c S m) ∧ Hid (Off w (w.setCell ⟨gb, 1, none⟩ (.int .i64 m)) [gb]) := by
  have ho : Off w (w.setCell ⟨gb, 1, none⟩ (.int .i64 m)) [gb] := (Off.refl w _).setCell (by simp) _
  refine ⟨Lib.hid ⟨by simp [World.setCell, Array.getElem?_modify, h.st], h.row.keep ho.size (fun k hk => Below.heap_setCell _ _ _ _ (h.ne k hk)), h.bg, h.ne, ⟨h.good.1, fun t ht => ?_⟩, h.len, by have := h.lo; omega, hb⟩, Lib.hid ho⟩
  have := h.good.2 t ht
  omega
theorem RQ.drew (h : RQ w base gb A c S last) : RQ w.drew base gb A c S last := ⟨h.st, h.row.keep (Nat.le_refl _) (fun _ _ => rfl), h.bg, h.ne, h.good, h.len, h.lo, h.hi⟩
theorem size_ad (w1 : World) (o : Obj) : (w1.alloc o).drew.heap.size = w1.heap.size + 1 := by show (w1.alloc o).heap.size = _; simp
theorem rnew (w1 : World) (t : Tm) : ∀ j u, (tvs [t])[j]? = some u → (w1.alloc (tob t)).cell? ((⟨w1.heap.size, 0, none⟩ : Addr).add j) = some u :=
  World.news_of_block (w := w1.alloc (tob t)) (heap_alloc_new w1 (tob t))
/-- Behind an append onto the document's row. -/
theorem radded {w1 w3 : World} {t : Tm} {b3 c3 : Nat} {o : Obj} (h : RQ w1 base gb A c S last) (ho : Off w w1 [gb]) (hown : Own w3 base (some ⟨b3, 0, none⟩) c3 (S ++ [t])) (hg : (w1.alloc o).drew.grownBy w3 (blk A)) (hat : blk A = some b3 ∨ w1.heap.size + 1 ≤ b3) (hgd : Tmr.Good (S ++ [t]) last) (hl : (S.length : Int) < 1999) :
    (w3.heap[gb]? = w1.heap[gb]?) ∧ Hid (RLeft w base gb A (S ++ [t]) last (w3.setCell ⟨gb, 0, none⟩ (.slice (some ⟨b3, 0, none⟩) (S.length + 1) c3))) := by
  have o1 : Off w1 w3 (blk A).toList := ((Off.refl w1 _).alloc o).drew.same (Off.of_grown hg (fun k e => by simp [e]))
  have hgb : gb ∉ (blk A).toList := fun e => h.ne gb (by simpa using e) rfl
  have hb3 : b3 ≠ gb := by
    rcases hat with e | e
    · exact h.ne b3 e
    · have := h.lt; omega
  have hq := h.set0 (A' := some ⟨b3, 0, none⟩) (c' := c3) (S' := S ++ [t]) o1 hgb (ROw.of_own hown) (fun k hk => by simp [blk] at hk; subst hk; exact hb3) hgd (by simp; omega) (S.length + 1) (by simp)
  refine ⟨o1.block gb h.lt hgb, Lib.hid ⟨some ⟨b3, 0, none⟩, c3, Lib.hid hq, Lib.hid ?_, Lib.hid (fun k hk => ?_)⟩⟩
  · exact ((ho.mono (fun x hx => by simp at hx; subst hx; simp [rbl])).same (o1.mono (fun x hx => by simp [rbl]; right; simpa using hx))).setCell (by simp [rbl]) _
  · simp only [rbl, List.mem_cons, Option.mem_toList] at hk ⊢
    rcases hk with hk | hk
    · exact .inl (.inl hk)
    · simp [blk] at hk
      subst hk
      rcases hat with e | e
      · exact .inl (.inr e)
      · exact .inr (by have := ho.size; omega)
set_option maxHeartbeats 4000000 in
theorem radd (h : RQ w base gb A c S last) (hS : (S.length : Int) < 1000) (due tag m : Int) (hm : last + 1 = m) (hmb : m ≤ 100000) : Calls Try.prog 17 #[.pointer (some ⟨gb, 0, none⟩), .int .i64 due, .int .i64 tag] w fun e w' => e = .returned (.tuple #[.int .i64 m, .int .i64 0]) ∧ Hid (RLeft w base gb A (S ++ [⟨due, tag, m⟩]) m w') := by
  have hc0 := h.cell0
  have hc1 := h.cell1
  have hf1 := h.fz 1
  have hlo := h.lo
  have hhi := h.hi
  have hd : decide ((S.length : Int) ≥ 1024) = false := by simp; omega
  have hl3 : (S.length : Int) ≤ 3000 := by omega
  obtain ⟨HQ1, HO1⟩ := h.lst m hm hmb
  have HG : Hid (Tmr.Good (S ++ [(⟨due, tag, m⟩ : Tm)]) m) := Lib.hid (by have := h.good.add h.lo due tag; rw [hm] at this; exact this)
  have HSb := Lib.hid hS
  clear h hS
  go_enter Try.func17, Try.ntmps17
  go_wp2
  generalize w.setCell ⟨gb, 1, none⟩ (.int .i64 m) = w1 at HQ1 HO1 ⊢
  clear hc0 hc1 hf1
  have hc0 := HQ1.out.cell0
  have hc1 := HQ1.out.cell1
  have hf0 := HQ1.out.fz 0
  have HRo : Hid (ROw (w1.alloc (tob ⟨due, tag, m⟩)).drew base A c S) := Lib.hid (HQ1.out.row.keep (w' := (w1.alloc (tob ⟨due, tag, m⟩)).drew) (by show w1.heap.size ≤ (w1.alloc _).heap.size; simp) (fun k hk => Below.heap_alloc w1 _ k (HQ1.out.row.lt k hk).2))
  have HNw : Hid (∀ j u, (tvs [(⟨due, tag, m⟩ : Tm)])[j]? = some u → (w1.alloc (tob ⟨due, tag, m⟩)).drew.cell? ((⟨w1.heap.size, 0, none⟩ : Addr).add j) = some u) := Lib.hid (rnew w1 ⟨due, tag, m⟩)
  have HBs : Hid (base ≤ (w1.alloc (tob ⟨due, tag, m⟩)).drew.heap.size) := Lib.hid (by have := HQ1.out.bg; have := HQ1.out.lt; show base ≤ (w1.alloc _).heap.size; simp; omega)
  have HK : Hid (∀ w3 b3 c3, Own w3 base (some ⟨b3, 0, none⟩) c3 (S ++ [(⟨due, tag, m⟩ : Tm)]) → (w1.alloc (tob ⟨due, tag, m⟩)).drew.grownBy w3 (blk A) → (blk A = some b3 ∨ (w1.alloc (tob ⟨due, tag, m⟩)).drew.heap.size ≤ b3) → w3.cell? ⟨gb, 0, none⟩ = some (.slice A S.length c) ∧ w3.cell? ⟨gb, 1, none⟩ = some (.int .i64 m) ∧ w3.frozen? ⟨gb, 0, none⟩ = false ∧ Hid (RLeft w base gb A (S ++ [(⟨due, tag, m⟩ : Tm)]) m (w3.setCell ⟨gb, 0, none⟩ (.slice (some ⟨b3, 0, none⟩) (S.length + 1) c3)))) := Lib.hid (fun w3 b3 c3 k1 k2 k3 => by
    obtain ⟨r1, r2⟩ := radded HQ1.out HO1.out k1 k2 (by rcases k3 with k3 | k3; exact .inl k3; exact .inr (by rw [size_ad] at k3; exact k3)) HG.out (by have := HSb.out; omega)
    exact ⟨(World.cell?_of_block (w := w1) r1).trans hc0, (World.cell?_of_block (w := w1) r1).trans hc1, (World.frozen?_of_block (w := w1) r1).trans hf0, r2⟩)
  have hlt := HQ1.out.lt
  have z0 : ∀ o : Obj, (w1.alloc o).cell? ⟨gb, 0, none⟩ = some (.slice A S.length c) := fun o => (World.cell?_alloc_lt _ _ _ hlt).trans hc0
  have z1 : ∀ o : Obj, (w1.alloc o).cell? ⟨gb, 1, none⟩ = some (.int .i64 m) := fun o => (World.cell?_alloc_lt _ _ _ hlt).trans hc1
  go_region_law (refine step_appR _ rfl (.tmp 25) (.tmp 33) rfl base A c S [(⟨due, tag, m⟩ : Tm)] S.length rfl 1 rfl (by simp [Act.eval]) HRo.out ⟨w1.heap.size, 0, none⟩ 1 (by simp [Act.eval]) HNw.out (by omega) (by omega) HBs.out ?_; intro b3 c3 w3 hown3 hg3 hat3; obtain ⟨y0, y1, y2, HL⟩ := HK.out w3 b3 c3 hown3 hg3 hat3; clear hown3 hg3 hat3)
  all_goals go_wp2
  all_goals go_ret2
  all_goals exact ⟨rfl, HL⟩
end
end Go.Proofs.Ytibiobcjnnoeeaa.Con
