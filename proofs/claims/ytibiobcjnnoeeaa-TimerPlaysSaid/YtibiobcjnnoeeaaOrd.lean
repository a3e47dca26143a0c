/-
  Contracts of the methods of order: Len, Less, Swap.
-/
import Derived.Test.YtibiobcjnnoeeaaMem
import Derived.StillTailTactics
import Derived.BigRegion
import Derived.Deep.RegionHeld3
namespace Go.Proofs.Ytibiobcjnnoeeaa.Con
open Go.RowKit Tmr Go.Maps

theorem len_any {w : World} {q : Nat} {A : Option Addr} {n c : Nat} (hq : w.cell? ⟨q, 0, none⟩ = some (.slice A n c)) :
    Calls Try.prog 22 #[.pointer (some ⟨q, 0, none⟩)] w fun e w' => e = .returned (.int .i64 n) ∧ w = w' := by
  go_enter Try.func22, Try.ntmps22
  go_wp2
  go_ret
  exact ⟨rfl, rfl⟩
theorem qlen_any {w : World} {q : Nat} {A : Option Addr} {n c : Nat} (hq : w.cell? ⟨q, 0, none⟩ = some (.slice A n c)) :
    Calls Try.prog 11 #[.pointer (some ⟨q, 0, none⟩)] w fun e w' => e = .returned (.int .i64 n) ∧ w = w' := by
  go_enter Try.func11, Try.ntmps11
  go_wp2_with ((with_reducible refine (len_any hq).mono ?_); rintro e w' ⟨rfl, rfl⟩)
  go_ret
  exact ⟨rfl, rfl⟩

theorem less_any {w : World} {q b : Nat} {n c : Nat} (hq : w.cell? ⟨q, 0, none⟩ = some (.slice (some ⟨b, 0, none⟩) n c)) (i j : Nat) (hi : i < n) (hj : j < n) (s t : Tm)
   (h1 : w.cell? ⟨b, i * 3, none⟩ = some (.int .i64 s.due)) (h2 : w.cell? ⟨b, i * 3 + 1, none⟩ = some (.int .i64 s.tag)) (h3 : w.cell? ⟨b, i * 3 + 2, none⟩ = some (.int .i64 s.id))
   (k1 : w.cell? ⟨b, j * 3, none⟩ = some (.int .i64 t.due)) (k2 : w.cell? ⟨b, j * 3 + 1, none⟩ = some (.int .i64 t.tag)) (k3 : w.cell? ⟨b, j * 3 + 2, none⟩ = some (.int .i64 t.id)) :
    Calls Try.prog 44 #[.pointer (some ⟨q, 0, none⟩), .int .i64 i, .int .i64 j] w fun e w' => e = .returned (.bool (lt s t)) ∧ Below w.heap.size w w' := by
  have hi' : (i : Int) < n := by omega
  have hj' : (j : Int) < n := by omega
  have hB : ∀ o o' : Obj, Below w.heap.size w ((w.alloc o).alloc o').drew := fun o o' => by
    have := ((Below.refl w.heap.size w).alloc (Nat.le_refl _) o).alloc (by simp) o'
    exact ⟨this.os, this.tape, this.output, this.size, this.block⟩
  by_cases hd : s.due = t.due
  · have hd1 : (s.due == t.due) = true := by simpa using hd
    have hl : lt s t = decide (s.id < t.id) := by simp [lt, hd]
    have HB := Lib.hid hB
    clear hB
    go_enter Try.func44, Try.ntmps44
    go_wp2
    go_region_held3 (fun W => W.cell? ⟨q, 0, none⟩ = some (.slice (some ⟨b, 0, none⟩) n c) ∧ W.cell? ⟨b, i * 3, none⟩ = some (.int .i64 s.due) ∧ W.cell? ⟨b, i * 3 + 1, none⟩ = some (.int .i64 s.tag) ∧ W.cell? ⟨b, i * 3 + 2, none⟩ = some (.int .i64 s.id) ∧ W.cell? ⟨b, j * 3, none⟩ = some (.int .i64 t.due) ∧ W.cell? ⟨b, j * 3 + 1, none⟩ = some (.int .i64 t.tag) ∧ W.cell? ⟨b, j * 3 + 2, none⟩ = some (.int .i64 t.id)) (first | exact ⟨hq, h1, h2, h3, k1, k2, k3⟩ | go_keep) (first | fail)
    all_goals go_wp2
    all_goals go_ret
    all_goals exact ⟨by rw [hl]; rfl, HB.out _ _⟩
  · have hd1 : (s.due == t.due) = false := by simpa using hd
    have hl : lt s t = decide (s.due < t.due) := by simp [lt, hd]
    have HB := Lib.hid hB
    clear hB
    go_enter Try.func44, Try.ntmps44
    go_wp2
    go_region_held3 (fun W => W.cell? ⟨q, 0, none⟩ = some (.slice (some ⟨b, 0, none⟩) n c) ∧ W.cell? ⟨b, i * 3, none⟩ = some (.int .i64 s.due) ∧ W.cell? ⟨b, i * 3 + 1, none⟩ = some (.int .i64 s.tag) ∧ W.cell? ⟨b, i * 3 + 2, none⟩ = some (.int .i64 s.id) ∧ W.cell? ⟨b, j * 3, none⟩ = some (.int .i64 t.due) ∧ W.cell? ⟨b, j * 3 + 1, none⟩ = some (.int .i64 t.tag) ∧ W.cell? ⟨b, j * 3 + 2, none⟩ = some (.int .i64 t.id)) (first | exact ⟨hq, h1, h2, h3, k1, k2, k3⟩ | go_keep) (first | fail)
    all_goals go_wp2
    all_goals go_ret
    all_goals exact ⟨by rw [hl]; rfl, HB.out _ _⟩
section
variable {w : World} {base q mb : Nat} {A : Option Addr} {c : Nat} {l lm : List Tm} {last : Int}
theorem less_q (h : Que w base q mb A c l lm last) (i j : Nat) (hi : i < l.length) (hj : j < l.length) (x : Bool) (hx : lt (g l i) (g l j) = x) :
    Calls Try.prog 44 #[.pointer (some ⟨q, 0, none⟩), .int .i64 i, .int .i64 j] w fun e w' => e = .returned (.bool x) ∧ Below w.heap.size w w' := by
  subst hx
  obtain ⟨b, rfl, _, h1, h2, h3⟩ := h.own.rt.at' hi
  obtain ⟨b', e, _, k1, k2, k3⟩ := h.own.rt.at' hj
  injection e with e
  injection e with e
  subst e
  exact less_any h.cell0 i j hi hj _ _ h1 h2 h3 k1 k2 k3
end

theorem Own.drew {w : World} {base : Nat} {A : Option Addr} {c : Nat} {l : List Tm} (h : Own w base A c l) : Own w.drew base A c l := h
theorem Que.drew {w : World} {base q mb : Nat} {A : Option Addr} {c : Nat} {l lm : List Tm} {last : Int} (h : Que w base q mb A c l lm last) : Que w.drew base q mb A c l lm last := ⟨h.st, h.own, h.map, h.bq, h.bm⟩
/-- Behind the exchange in the row. -/
theorem swap_row {w : World} {base q mb b : Nat} {c : Nat} {l lm : List Tm} {last : Int} (h : Que w base q mb (some ⟨b, 0, none⟩) c l lm last) (i j : Nat) :
    Que ((((((w.setCell ⟨b, i * 3, none⟩ (.int .i64 (g l j).due)).setCell ⟨b, i * 3 + 1, none⟩ (.int .i64 (g l j).tag)).setCell ⟨b, i * 3 + 2, none⟩ (.int .i64 (g l j).id)).setCell ⟨b, j * 3, none⟩ (.int .i64 (g l i).due)).setCell ⟨b, j * 3 + 1, none⟩ (.int .i64 (g l i).tag)).setCell ⟨b, j * 3 + 2, none⟩ (.int .i64 (g l i).id)).drew base q mb (some ⟨b, 0, none⟩) c (sw l i j) lm last ∧
    Off w ((((((w.setCell ⟨b, i * 3, none⟩ (.int .i64 (g l j).due)).setCell ⟨b, i * 3 + 1, none⟩ (.int .i64 (g l j).tag)).setCell ⟨b, i * 3 + 2, none⟩ (.int .i64 (g l j).id)).setCell ⟨b, j * 3, none⟩ (.int .i64 (g l i).due)).setCell ⟨b, j * 3 + 1, none⟩ (.int .i64 (g l i).tag)).setCell ⟨b, j * 3 + 2, none⟩ (.int .i64 (g l i).id)).drew [b] := by
  have ho : Off w ((((((w.setCell ⟨b, i * 3, none⟩ (.int .i64 (g l j).due)).setCell ⟨b, i * 3 + 1, none⟩ (.int .i64 (g l j).tag)).setCell ⟨b, i * 3 + 2, none⟩ (.int .i64 (g l j).id)).setCell ⟨b, j * 3, none⟩ (.int .i64 (g l i).due)).setCell ⟨b, j * 3 + 1, none⟩ (.int .i64 (g l i).tag)).setCell ⟨b, j * 3 + 2, none⟩ (.int .i64 (g l i).id)).drew [b] := by
    have m : b ∈ [b] := by simp
    refine Off.drew ?_
    iterate 6 refine Off.setCell ?_ m _
    exact Off.refl w [b]
  have hbq := h.rq (b := b) rfl
  have hbm := h.rm (b := b) rfl
  refine ⟨⟨?_, ?_, h.map.keep (ho.block mb h.mlt (by simp; omega)), h.bq, h.bm⟩, ho⟩
  · have := (ho.block q h.lt (by simp; omega)).trans h.st
    rw [sw_length]
    exact this
  · unfold sw
    exact Own.drew ((h.own.set i (g l j)).set j (g l i))
/-- A store into the map. -/
theorem put_row {w w' : World} {base q mb : Nat} {A : Option Addr} {c : Nat} {l lm lm' : List Tm} {last : Int} {n : Nat} {D : DataW Unit} (h : Que w base q mb A c l lm last) (hm : w'.ownsMap Try.prog 3 (plainElem Try.prog 3) mb n D) (hg : w.grownBy w' (some mb)) (hp : Places D lm') : Que w' base q mb A c l lm' last ∧ Off w w' [mb] := by
  have ho : Off w w' [mb] := Off.of_grown hg (fun k e => by injection e with e; simp [e])
  refine ⟨⟨(ho.block q h.lt (by simp; exact h.qm)).trans h.st, h.own.keep (fun k hk => ho.block k (h.own.lt k hk).2 (by simp; exact h.rm hk)), ⟨D, tight hm, hp⟩, h.bq, h.bm⟩, ho⟩
theorem sw_len {l : List Tm} {i j : Nat} {n : Nat} (h : l.length = n) : (sw l i j).length = n := (sw_length l i j).trans h

set_option maxHeartbeats 4000000 in
theorem swap_q {w : World} {base q mb : Nat} {A : Option Addr} {c : Nat} {l : List Tm} {last : Int} (h : Que w base q mb A c l l last) (i j : Nat) (hi : i < l.length) (hj : j < l.length) (hij : i ≠ j) (hne : l.Pairwise (fun a b => a.id ≠ b.id)) (hid : ∀ t ∈ l, 1 ≤ t.id ∧ t.id ≤ 1000000) (hl : (l.length : Int) ≤ 2000) :
    Calls Try.prog 47 #[.pointer (some ⟨q, 0, none⟩), .int .i64 i, .int .i64 j] w fun e w' => e = .returned (.tuple #[]) ∧ Hid (Que w' base q mb A c (sw l i j) (sw l i j) last) ∧ Hid (Off w w' (bls q mb A)) := by
  obtain ⟨b, rfl, _, h1, h2, h3⟩ := h.own.rt.at' hi
  obtain ⟨b', e, _, k1, k2, k3⟩ := h.own.rt.at' hj
  injection e with e
  injection e with e
  subst e
  have hbq := h.rq (b := b) rfl
  have hbm := h.rm (b := b) rfl
  have hq := h.cell0
  have hi' : (i : Int) < l.length := by omega
  have hj' : (j : Int) < l.length := by omega
  have f1 := h.own.frozen (i * 3); have f2 := h.own.frozen (i * 3 + 1); have f3 := h.own.frozen (i * 3 + 2)
  have g1 := h.own.frozen (j * 3); have g2 := h.own.frozen (j * 3 + 1); have g3 := h.own.frozen (j * 3 + 2)
  have d1 : ∀ v, (w.setCell ⟨b, i * 3, none⟩ v).cell? ⟨b, j * 3, none⟩ = some (.int .i64 (g l j).due) := fun v => by
    rw [World.cell?_setCell_other _ _ _ _ (by intro e; injection e with _ e; omega)]; exact k1
  have d2 : ∀ v, (w.setCell ⟨b, i * 3 + 1, none⟩ v).cell? ⟨b, j * 3 + 1, none⟩ = some (.int .i64 (g l j).tag) := fun v => by
    rw [World.cell?_setCell_other _ _ _ _ (by intro e; injection e with _ e; omega)]; exact k2
  have d3 : ∀ v, (w.setCell ⟨b, i * 3 + 2, none⟩ v).cell? ⟨b, j * 3 + 2, none⟩ = some (.int .i64 (g l j).id) := fun v => by
    rw [World.cell?_setCell_other _ _ _ _ (by intro e; injection e with _ e; omega)]; exact k3
  have HQ := Lib.hid h; have HNe := Lib.hid hne; have HId := Lib.hid hid
  clear h hne hid
  go_enter Try.func47, Try.ntmps47
  go_wp2
  go_region
  go_wp2
  obtain ⟨hq1, ho1⟩ := swap_row HQ.out i j
  generalize ((((((w.setCell ⟨b, i * 3, none⟩ (.int .i64 (g l j).due)).setCell ⟨b, i * 3 + 1, none⟩ (.int .i64 (g l j).tag)).setCell ⟨b, i * 3 + 2, none⟩ (.int .i64 (g l j).id)).setCell ⟨b, j * 3, none⟩ (.int .i64 (g l i).due)).setCell ⟨b, j * 3 + 1, none⟩ (.int .i64 (g l i).tag)).setCell ⟨b, j * 3 + 2, none⟩ (.int .i64 (g l i).id)).drew = w1 at hq1 ho1 ⊢
  clear h1 h2 h3 k1 k2 k3 f1 f2 f3 g1 g2 g3 d1 d2 d3 hq
  obtain ⟨D, hD, hP⟩ := HQ.out.map
  have hD1 := hD
  obtain ⟨D1, hM1, hP1⟩ := hq1.map
  have c0 := hq1.cell0
  have c1 := hq1.cell1
  rw [sw_length] at c0
  obtain ⟨b', e, _, _, _, e3⟩ := hq1.own.rt.at' (k := i) (by rw [sw_length]; exact hi)
  injection e with e
  injection e with e
  subst e
  rw [sw_at hi hj, if_neg hij, if_pos rfl] at e3
  have hwi := HId.out _ (g_mem hi)
  have hwj := HId.out _ (g_mem hj)
  have hs1 : Maps.size D1 < maxLen := by rw [hP1.size]; unfold maxLen; omega
  have hkj : keyOf Try.prog 3 (.int .i64 (g l j).id) = some (key (g l j).id) := keyOf_int_mk Try.underlying3 (WalkArith.wf_i64 (by omega))
  go_still_tail 13, (by kernel_rfl)
  change wpList _ _ _ _ _ w1.drew
  refine wpList_mapUpdate_own _ rfl _ _ _ 49 rfl 3 3 law Try.underlying49 _ mb _ D1 rfl hM1.drew hs1 _ _ _ rfl rfl hkj _ [] (plainElem_int Try.underlying3 (WalkArith.wf_i64 (by omega))) ?_
  intro w2 hM2 hg2
  clear e3 c0 c1 hkj hD hP hD1
  have hS := hP1.swap HNe.out hi hj hij
  have ho2 : Off w1.drew w2 [mb] := Off.of_grown hg2 (fun k e => by injection e with e; simp [e])
  have hq2 : w2.heap[q]? = w1.heap[q]? := ho2.block q hq1.lt (by simp; exact hq1.qm)
  have hr2 : w2.heap[b]? = w1.heap[b]? := ho2.block b (hq1.own.lt b rfl).2 (by simp; exact hbm)
  have HQ1 := Lib.hid hq1; have HO1 := Lib.hid ho1; have HO2 := Lib.hid ho2; have HS := Lib.hid hS; have HP1 := Lib.hid hP1; have HM2 := Lib.hid hM2
  have c0 := hq1.cell0
  have c1 := hq1.cell1
  rw [sw_length] at c0
  obtain ⟨b', e, _, _, _, e3⟩ := hq1.own.rt.at' (k := j) (by rw [sw_length]; exact hj)
  injection e with e
  injection e with e
  subst e
  rw [sw_at hi hj, if_pos rfl] at e3
  rw [← World.cell?_of_block (w := w1) (w' := w2) hq2] at c0
  rw [← World.cell?_of_block (w := w1) (w' := w2) hq2] at c1
  rw [← World.cell?_of_block (w := w1) (w' := w2) hr2] at e3
  have hki : keyOf Try.prog 3 (.int .i64 (g l i).id) = some (key (g l i).id) := keyOf_int_mk Try.underlying3 (WalkArith.wf_i64 (by omega))
  clear hM1 hM2 hS ho1 ho2 hq1 hP1 hg2 hq2 hr2
  have hs2 : Maps.size D1 + 1 < maxLen := by rw [HP1.out.size]; unfold maxLen; omega
  go_wp2
  go_still_tail 13, (by kernel_rfl)
  change wpList _ _ _ _ _ w2.drew
  refine wpList_mapUpdate_own _ rfl _ _ _ 49 rfl 3 3 law Try.underlying49 _ mb _ _ rfl HM2.out.drew hs2 _ _ _ rfl rfl hki _ [] (plainElem_int Try.underlying3 (WalkArith.wf_i64 (by omega))) ?_
  intro w3 hM3 hg3
  have ho3 : Off w2.drew w3 [mb] := Off.of_grown hg3 (fun k e => by injection e with e; simp [e])
  have HM3 := Lib.hid hM3; have HO3 := Lib.hid ho3
  clear hM3 ho3 hg3 c0 c1 e3
  go_wp2
  go_end0
  have q1 := HQ1.out
  have o23 : Off w1 w3 [mb] := by
    have o2 : Off w1 w2 [mb] := ⟨HO2.out.os, HO2.out.tape, HO2.out.output, HO2.out.size, HO2.out.block⟩
    have o3 : Off w2 w3 [mb] := ⟨HO3.out.os, HO3.out.tape, HO3.out.output, HO3.out.size, HO3.out.block⟩
    exact o2.trans o3 (fun x hx => .inl hx)
  refine ⟨rfl, Lib.hid ?_, Lib.hid ?_⟩
  · exact ⟨(o23.block q q1.lt (by simp; exact q1.qm)).trans q1.st, q1.own.keep (fun k hk => o23.block k (q1.own.lt k hk).2 (by simp; exact q1.rm hk)), ⟨_, tight HM3.out, HS.out⟩, q1.bq, q1.bm⟩
  · have hb : b ∈ bls q mb (some ⟨b, 0, none⟩) := by simp [bls, blk]
    have hm : mb ∈ bls q mb (some ⟨b, 0, none⟩) := by simp [bls]
    exact (HO1.out.mono (fun x hx => by simp at hx; subst hx; exact hb)).trans o23 (fun x hx => by simp at hx; subst hx; exact .inl hm)
end Go.Proofs.Ytibiobcjnnoeeaa.Con
