/-
  Contracts of order's Push and Pop.
-/
import Derived.Test.YtibiobcjnnoeeaaMem
import Derived.StillTailTactics
import Derived.Deep.RegionLaw
namespace Go.Proofs.Ytibiobcjnnoeeaa.Con
open Go.RowKit Tmr Go.Maps
set_option maxHeartbeats 4000000 in
theorem opop {w : World} {base q mb b : Nat} {c : Nat} {l lm : List Tm} {last : Int} (h : Que w base q mb (some ⟨b, 0, none⟩) c l lm last) (hl : (l.length : Int) ≤ 2000) (h0 : 0 < l.length) :
    Calls Try.prog 45 #[.pointer (some ⟨q, 0, none⟩)] w fun e w' => (∃ v, e = .returned v) ∧ Hid (Que w' base q mb (some ⟨b, 0, none⟩) c l.dropLast lm last) ∧ Hid (Off w w' (bls q mb (some ⟨b, 0, none⟩))) := by
  have hc0 := h.cell0
  obtain ⟨n, hn⟩ : ∃ n, l.length = n + 1 := ⟨l.length - 1, by omega⟩
  obtain ⟨b', e, hbl, e1, e2, e3⟩ := h.own.rt.at' (k := n) (by omega)
  injection e with e
  injection e with e
  subst e
  have hf := h.fz 0
  have hbq := h.rq (b := b) rfl
  have hlt := h.lt
  have hlc : n + 1 ≤ c := by
    rcases h.own.cases with ⟨h1, _⟩ | ⟨_, _, _, _, hc, _⟩
    · cases h1
    · omega
  have HQ := Lib.hid h
  rw [hn] at hc0 hl
  have hcz : ∀ o : Obj, (w.alloc o).cell? ⟨q, 0, none⟩ = some (.slice (some ⟨b, 0, none⟩) (n + 1) c) := fun o => (World.cell?_alloc_lt _ _ _ hlt).trans hc0
  have hfz : ∀ o : Obj, (w.alloc o).frozen? ⟨q, 0, none⟩ = false := fun o => by
    rw [World.frozen?_of_block (w := w) (w' := w.alloc o) (a := ⟨q, 0, none⟩) (Below.heap_alloc w o q hlt)]; exact hf
  clear h
  go_enter Try.func45, Try.ntmps45
  go_wp2
  go_ret
  have hd : l.dropLast = l.take n := by rw [List.dropLast_eq_take, hn]; rfl
  have hdl : (l.take n).length = n := by simp; omega
  have q1 := HQ.out
  have ho : ∀ o : Obj, Off w ((w.setCell ⟨q, 0, none⟩ (.slice (some ⟨b, 0, none⟩) n c)).alloc o) [q] := fun o => ((Off.refl w [q]).setCell (by simp) _).alloc _
  refine ⟨⟨_, rfl⟩, Lib.hid ?_, Lib.hid ?_⟩
  · rw [hd]
    refine ⟨?_, (q1.own.take n (by omega)).keep (fun k hk => (ho _).block k (q1.own.lt k hk).2 (by simp; exact q1.rq hk)), q1.map.keep ((ho _).block mb q1.mlt (by simp; exact fun e => q1.qm e.symm)), q1.bq, q1.bm⟩
    have h2 : (w.setCell ⟨q, 0, none⟩ (.slice (some ⟨b, 0, none⟩) n c)).heap[q]? = some (.cells #[.slice (some ⟨b, 0, none⟩) n c, .map (some mb), .int .i64 last] 53 (0, 0)) := by simp [World.setCell, Array.getElem?_modify, q1.st]
    rw [hdl]
    exact (Below.heap_alloc _ _ q (by simp [World.setCell]; exact hlt)).trans h2
  · exact ((ho _).mono (fun x hx => by simp at hx; subst hx; simp [bls]))

/-- Behind an append onto the row, the struct not yet written. -/
theorem app_keep {w w' : World} {base q mb : Nat} {A : Option Addr} {c n : Nat} {l lm : List Tm} {last : Int} {o : Obj} (h : Que w base q mb A c l lm last) (hg : ((w.alloc o).drew).grownBy w' (Value.slice A n c).ownBlock) : w'.heap[q]? = w.heap[q]? ∧ w'.heap[mb]? = w.heap[mb]? ∧ Off w w' (bls q mb A) := by
  have ho : Off w w' (blk A).toList := by
    have h1 : Off w (w.alloc o).drew (blk A).toList := ((Off.refl w _).alloc o).drew
    exact h1.trans (Off.of_grown (bs := (blk A).toList) hg (fun k e => by rw [blk_own] at e; simp [e])) (fun x hx => .inl hx)
  refine ⟨ho.block q h.lt (fun e => ?_), ho.block mb h.mlt (fun e => ?_), ho.mono (fun x hx => by simp [bls]; right; right; simpa using hx)⟩
  · exact h.rq (by simpa using e) rfl
  · exact h.rm (by simpa using e) rfl
/-- .. and the struct written. -/
theorem app_done {w w' : World} {base q mb : Nat} {A : Option Addr} {c n : Nat} {l lm : List Tm} {last : Int} {o : Obj} {t : Tm} {b c' : Nat} (h : Que w base q mb A c l lm last) (hg : ((w.alloc o).drew).grownBy w' (Value.slice A n c).ownBlock) (ho : w'.ownsRow base 33 3 (.slice (some ⟨b, 0, none⟩) (l.length + 1) c') (l.length + 1) (tvs l ++ tv t)) (hb : (Value.slice A n c).ownBlock = some b ∨ b = w.heap.size + 1) :
    Que (w'.setCell ⟨q, 0, none⟩ (.slice (some ⟨b, 0, none⟩) (l.length + 1) c')) base q mb (some ⟨b, 0, none⟩) c' (l ++ [t]) lm last ∧ Off w (w'.setCell ⟨q, 0, none⟩ (.slice (some ⟨b, 0, none⟩) (l.length + 1) c')) (bls q mb A) ∧ ∀ k ∈ bls q mb (some ⟨b, 0, none⟩), k ∈ bls q mb A ∨ w.heap.size ≤ k := by
  obtain ⟨h1, h2, h3⟩ := app_keep h hg
  have e : tvs l ++ tv t = tvs (l ++ [t]) := tvs_app l [t]
  have el : l.length + 1 = (l ++ [t]).length := by simp
  have hlt := h.lt
  rw [blk_own] at hb
  have hbq : b ≠ q := by
    rcases hb with hb | hb
    · exact h.rq hb
    · omega
  have hbm : b ≠ mb := by
    have := h.mlt
    rcases hb with hb | hb
    · exact h.rm hb
    · omega
  refine ⟨⟨?_, ?_, h.map.keep ((Below.heap_setCell _ _ _ _ (fun e => h.qm e.symm)).trans h2), h.bq, h.bm⟩, h3.setCell (by simp [bls]) _, fun k hk => ?_⟩
  · rw [← el]
    simp [World.setCell, Array.getElem?_modify, h1, h.st]
  · rw [e, el] at ho
    exact Own.keep ho (fun k hk => Below.heap_setCell _ _ _ _ (by simp [blk] at hk; subst hk; exact hbq))
  · simp only [bls, List.mem_cons, Option.mem_toList] at hk ⊢
    rcases hk with hk | hk | hk
    · exact .inl (.inl hk)
    · exact .inl (.inr (.inl hk))
    · simp [blk] at hk
      subst hk
      rcases hb with hb | hb
      · exact .inl (.inr (.inr hb))
      · exact .inr (by omega)
theorem info33 : (Try.prog.info? 33).map (fun i => (i.zero, i.size, i.bytes)) = some (some (.agg #[.int .i64 0, .int .i64 0, .int .i64 0]), 3, 24) := by kernel_rfl
set_option maxHeartbeats 4000000 in
theorem opush {w : World} {base q mb : Nat} {A : Option Addr} {c : Nat} {l : List Tm} {last : Int} (h : Que w base q mb A c l l last) (t : Tm) (hn : hasId l t.id = false) (ht : 1 ≤ t.id ∧ t.id ≤ 1000000) (hl : (l.length : Int) ≤ 2000) :
    Calls Try.prog 46 #[.pointer (some ⟨q, 0, none⟩), .iface 33 (.agg #[.int .i64 t.due, .int .i64 t.tag, .int .i64 t.id])] w fun e w' => e = .returned (.tuple #[]) ∧ ∃ A' c', Hid (Que w' base q mb A' c' (l ++ [t]) (l ++ [t]) last) ∧ Hid (Off w w' (bls q mb A)) ∧ Hid (∀ k ∈ bls q mb A', k ∈ bls q mb A ∨ w.heap.size ≤ k) := by
  have h1 := h.step ((Below.refl w.heap.size w).alloc (Nat.le_refl _) (.cells #[.int .i64 t.due, .int .i64 t.tag, .int .i64 t.id] 33))
  have hn1 := heap_alloc_new w (.cells #[.int .i64 t.due, .int .i64 t.tag, .int .i64 t.id] 33)
  have ho1 : Off w (w.alloc (.cells #[.int .i64 t.due, .int .i64 t.tag, .int .i64 t.id] 33)) (bls q mb A) := (Off.refl w _).alloc _
  have hs1 : (w.alloc (.cells #[.int .i64 t.due, .int .i64 t.tag, .int .i64 t.id] 33)).heap.size = w.heap.size + 1 := by simp
  have HQ := Lib.hid h; have HN := Lib.hid hn
  clear h hn
  have hta : ∀ w : World, (Instr.typeAssert (.iface 33 (.agg #[.int .i64 t.due, .int .i64 t.tag, .int .i64 t.id])) 20 33 false).run Try.prog w = .ok (.agg #[.int .i64 t.due, .int .i64 t.tag, .int .i64 t.id]) w := fun _ => by kernel_rfl
  go_enter Try.func46, Try.ntmps46
  go_wp2
  generalize w.alloc (.cells #[.int .i64 t.due, .int .i64 t.tag, .int .i64 t.id] 33) = w1 at h1 hn1 ho1 hs1 ⊢
  obtain ⟨D, hM, hP⟩ := h1.map
  have hc0 := h1.cell0
  have hc1 := h1.cell1
  have ht0 : w1.cell? ⟨w.heap.size, 0, none⟩ = some (.int .i64 t.due) := (cell_of_row w1 _ 0 _ 33 (0, 0) hn1).trans rfl
  have ht1 : w1.cell? ⟨w.heap.size, 1, none⟩ = some (.int .i64 t.tag) := (cell_of_row w1 _ 1 _ 33 (0, 0) hn1).trans rfl
  have ht2 : w1.cell? ⟨w.heap.size, 2, none⟩ = some (.int .i64 t.id) := (cell_of_row w1 _ 2 _ 33 (0, 0) hn1).trans rfl
  have hs : Maps.size D < maxLen := by rw [hP.size]; unfold maxLen; omega
  have hk : keyOf Try.prog 3 (.int .i64 t.id) = some (key t.id) := keyOf_int_mk Try.underlying3 (WalkArith.wf_i64 (by omega))
  have HPs := Lib.hid (hP.push t HN.out)
  have HM := Lib.hid hM; have HQ1 := Lib.hid h1; have HN1 := Lib.hid hn1; have HO1 := Lib.hid ho1
  clear hM hP h1 hn1 ho1
  go_still_tail 11, (by kernel_rfl)
  change wpList _ _ _ _ _ w1.drew
  refine wpList_mapUpdate_own _ rfl _ _ _ 49 rfl 3 3 law Try.underlying49 _ mb _ D rfl HM.out.drew hs _ _ _ rfl rfl hk _ [] (plainElem_int Try.underlying3 (WalkArith.wf_i64 (by omega))) ?_
  intro w2 hM2 hg2
  have ho2 : Off w1.drew w2 [mb] := Off.of_grown hg2 (fun k e => by injection e with e; simp [e])
  have hq2 : Que w2 base q mb A c l (l ++ [t]) last := by
    have q1 := HQ1.out
    exact ⟨(ho2.block q q1.lt (by simp; exact q1.qm)).trans q1.st, q1.own.keep (fun k hk => ho2.block k (q1.own.lt k hk).2 (by simp; exact q1.rm hk)), ⟨_, tight hM2, HPs.out⟩, q1.bq, q1.bm⟩
  have hne : w.heap.size ≠ mb := by have := HQ.out.mlt; omega
  have hn2 : w2.heap[w.heap.size]? = some (.cells #[.int .i64 t.due, .int .i64 t.tag, .int .i64 t.id] 33 (0, 0)) := (ho2.block _ (show w.heap.size < w1.heap.size by omega) (by simp; exact hne)).trans HN1.out
  have HQ2 := Lib.hid hq2; have HO2 := Lib.hid ho2
  clear hc0 hc1 ht0 ht1 ht2 hM2 hg2 ho2 hk
  have hc0 := hq2.cell0
  have hf0 := hq2.fz 0
  have ht0 : w2.cell? ⟨w.heap.size, 0, none⟩ = some (.int .i64 t.due) := (cell_of_row w2 _ 0 _ 33 (0, 0) hn2).trans rfl
  have ht1 : w2.cell? ⟨w.heap.size, 1, none⟩ = some (.int .i64 t.tag) := (cell_of_row w2 _ 1 _ 33 (0, 0) hn2).trans rfl
  have ht2 : w2.cell? ⟨w.heap.size, 2, none⟩ = some (.int .i64 t.id) := (cell_of_row w2 _ 2 _ 33 (0, 0) hn2).trans rfl
  clear hq2 hn2
  obtain ⟨i0, hi0, hz0, hz1, hz2⟩ := info_parts info33
  have q2 := HQ2.out
  have hlt2 := q2.lt
  have hsz2 : w.heap.size < w2.heap.size := by
    have := HO2.out.size
    simp only [World.drew] at this
    omega
  have hc0' : ∀ o : Obj, (w2.alloc o).cell? ⟨q, 0, none⟩ = some (.slice A l.length c) := fun o => (World.cell?_alloc_lt _ _ _ hlt2).trans hc0
  have HOwn : Hid (((w2.alloc (.cells #[.int .i64 t.due, .int .i64 t.tag, .int .i64 t.id] 33)).drew).ownsRow base 33 3 (.slice A l.length c) l.length (tvs l)) := Lib.hid (q2.own.keep (w' := (w2.alloc (.cells #[.int .i64 t.due, .int .i64 t.tag, .int .i64 t.id] 33)).drew) (fun k hk => Below.heap_alloc w2 _ k (q2.own.lt k hk).2))
  have HNw : Hid (∀ j u, (tv t)[j]? = some u → ((w2.alloc (.cells #[.int .i64 t.due, .int .i64 t.tag, .int .i64 t.id] 33)).drew).cell? ((⟨w2.heap.size, 0, none⟩ : Addr).add j) = some u) := Lib.hid (World.news_of_block (w := (w2.alloc (.cells #[.int .i64 t.due, .int .i64 t.tag, .int .i64 t.id] 33)).drew) (heap_alloc_new w2 (.cells #[.int .i64 t.due, .int .i64 t.tag, .int .i64 t.id] 33)))
  have HBs : Hid (base ≤ ((w2.alloc (.cells #[.int .i64 t.due, .int .i64 t.tag, .int .i64 t.id] 33)).drew).heap.size) := Lib.hid (by have := q2.bq; show base ≤ (w2.alloc _).heap.size; simp; omega)
  have HSz : Hid (((w2.alloc (.cells #[.int .i64 t.due, .int .i64 t.tag, .int .i64 t.id] 33)).drew).heap.size = w2.heap.size + 1) := Lib.hid (by show (w2.alloc _).heap.size = _; simp)
  have HK : Hid (∀ (w3 : World), ((w2.alloc (.cells #[.int .i64 t.due, .int .i64 t.tag, .int .i64 t.id] 33)).drew).grownBy w3 (Value.slice A l.length c).ownBlock → w3.cell? ⟨q, 0, none⟩ = some (.slice A l.length c) ∧ w3.frozen? ⟨q, 0, none⟩ = false) := Lib.hid (fun w3 hg => by
    have e := (app_keep HQ2.out hg).1
    exact ⟨(World.cell?_of_block (w := w2) e).trans hc0, (World.frozen?_of_block (w := w2) e).trans hf0⟩)
  clear q2
  go_wp2
  go_region_law (refine step_append_lies _ rfl (.tmp 22) (.tmp 24) 27 rfl base 33 i0 _ 3 24 Try.underlying27 hi0 hz0 hz1 hz2 rfl (by omega) (.slice A l.length c) l.length (tvs l) (by simp [Act.eval]) HOwn.out ⟨w2.heap.size, 0, none⟩ 1 1 (tv t) (by simp [Act.eval]) rfl HNw.out (tvs_one [t]) (by omega) (by unfold maxLen; omega) (by omega) HBs.out (w2.heap.size + 1) HSz.out ?_; intro b3 c3 w3 hown3 hg3 hat3 hlt3; obtain ⟨hc3, hf3⟩ := HK.out w3 hg3; have HW3 := Lib.hid hown3; have HG3 := Lib.hid hg3; have HT3 := Lib.hid hat3; clear hown3 hg3 hat3 hlt3)
  all_goals go_wp2
  all_goals go_end0
  all_goals
    obtain ⟨r1, r2, r3⟩ := app_done HQ2.out HG3.out HW3.out HT3.out
    have o2 : Off w w2 (bls q mb A) := HO1.out.trans ⟨HO2.out.os, HO2.out.tape, HO2.out.output, HO2.out.size, HO2.out.block⟩ (fun x hx => by simp at hx; subst hx; exact .inl (by simp [bls]))
    refine ⟨rfl, some ⟨b3, 0, none⟩, c3, Lib.hid ?_, Lib.hid (o2.trans ⟨r2.os, r2.tape, r2.output, r2.size, r2.block⟩ (fun x hx => .inl hx)), Lib.hid (fun k hk => ?_)⟩
    rotate_left
    · rcases r3 k hk with h | h
      · exact .inl h
      · exact .inr (by have := o2.size; omega)
    · exact ⟨r1.st, r1.own, r1.map, r1.bq, r1.bm⟩
end Go.Proofs.Ytibiobcjnnoeeaa.Con
