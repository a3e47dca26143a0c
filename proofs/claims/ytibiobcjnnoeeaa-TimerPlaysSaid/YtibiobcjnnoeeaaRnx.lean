/-
  Contracts of the document's queue: Next.
-/
import Derived.Test.YtibiobcjnnoeeaaRad
namespace Go.Proofs.Ytibiobcjnnoeeaa.Con
open Go.RowKit Tmr Go.Maps

/-- The best of the first k. -/
def Best (S : List Tm) (k : Nat) (b : Int) : Prop := (k = 0 ∧ b = -1) ∨ ∃ j : Nat, b = j ∧ j < k ∧ (∀ i, i < k → (g S j).due ≤ (g S i).due) ∧ ∀ i, i < j → (g S j).due < (g S i).due
theorem best_one {S : List Tm} {k : Nat} (h : k = 0) : Best S (k + 1) (k : Int) := by
  subst h
  refine .inr ⟨0, rfl, by omega, fun i hi => ?_, fun i hi => by omega⟩
  obtain rfl : i = 0 := by omega
  exact Int.le_refl _
theorem best_first {S : List Tm} {last : Int} (hg : Tmr.Good S last) {b : Int} (h : Best S S.length b) {t : Tm} (ht : first S = some t) : ∃ j : Nat, b = j ∧ j < S.length ∧ g S j = t := by
  obtain ⟨h1, h2⟩ := first_some hg.1 ht
  rcases h with ⟨h0, _⟩ | ⟨j, rfl, hj, k1, k2⟩
  · rw [List.eq_nil_of_length_eq_zero h0] at h1; cases h1
  · refine ⟨j, rfl, hj, ?_⟩
    have hm := g_mem hj
    refine uniq hg.ne hm h1 (Le.ids ?_ (h2 _ hm))
    obtain ⟨i, hi, e⟩ := List.mem_iff_getElem.1 h1
    have e2 : t = g S i := by rw [← e]; simp [g, hi]
    rw [e2]
    have a1 := k1 i hi
    unfold Le
    rcases Nat.lt_trichotomy i j with hlt | hlt | hlt
    · exact .inl (k2 i hlt)
    · subst hlt; right; exact ⟨rfl, Int.le_refl _⟩
    · have := List.pairwise_iff_getElem.1 hg.1 j i hj hi hlt
      have e3 : (g S j) = S[j] := by simp [g, hj]
      have e4 : (g S i) = S[i] := by simp [g, hi]
      rw [e3, e4] at a1 ⊢
      omega
section
variable {w w' : World} {base gb : Nat} {A : Option Addr} {c : Nat} {S : List Tm} {last : Int}
set_option maxHeartbeats 2000000 in
theorem rnext_none (h : RQ w base gb A c S last) (hS : first S = none) : Calls Try.prog 10 #[.pointer (some ⟨gb, 0, none⟩)] w fun e w' => e = .returned (.tuple #[.agg #[.int .i64 0, .int .i64 0, .int .i64 0], .bool false]) ∧ Below w.heap.size w w' := by
  have hn : S = [] := first_none.1 hS
  subst hn
  have hc0 : w.cell? ⟨gb, 0, none⟩ = some (.slice A 0 c) := h.cell0
  have hlt := h.lt
  clear h hS
  have hl : decide ((0 : Int) < 0) = false := by decide
  go_enter Try.func10, Try.ntmps10
  go_wp2
  go_loopg [4, 5] 0 (fun m s4 s5 wr => m = 0 ∧ s4 = .int .i64 (-1) ∧ s5 = .int .i64 0 ∧ wr = w.alloc (.cells #[.int .i64 0, .int .i64 0, .int .i64 0] 33))
  case atStart => exact ⟨rfl, rfl, rfl, rfl⟩
  case round =>
    obtain ⟨rfl, rfl, rfl, rfl⟩ := hrel
    have hm1 : decide ((-1 : Int) < 0) = true := by decide
    go_wp2
    go_returns
    exact ⟨rfl, by go_grown⟩
set_option maxHeartbeats 4000000 in
theorem rnext_some (h : RQ w base gb A c S last) (t : Tm) (ht : first S = some t) : Calls Try.prog 10 #[.pointer (some ⟨gb, 0, none⟩)] w fun e w' => e = .returned (.tuple #[.agg #[.int .i64 t.due, .int .i64 t.tag, .int .i64 t.id], .bool true]) ∧ Below w.heap.size w w' := by
  have hlt := h.lt
  have hl3 : (S.length : Int) ≤ 3000 := by have := h.len; omega
  have HQ := Lib.hid h; have HT := Lib.hid ht
  clear h ht
  have hb1 : Below w.heap.size w (w.alloc (.cells #[.int .i64 0, .int .i64 0, .int .i64 0] 33)) := (Below.refl _ _).alloc (Nat.le_refl _) _
  have hnew := heap_alloc_new w (.cells #[.int .i64 0, .int .i64 0, .int .i64 0] 33)
  have HQ1 := Lib.hid (HQ.out.step hb1)
  have HB1 := Lib.hid hb1
  have hs1 : (w.alloc (.cells #[.int .i64 0, .int .i64 0, .int .i64 0] 33)).heap.size = w.heap.size + 1 := by simp
  clear hb1
  go_enter Try.func10, Try.ntmps10
  go_wp2
  generalize w.alloc (.cells #[.int .i64 0, .int .i64 0, .int .i64 0] 33) = w1 at hnew HQ1 HB1 hs1 ⊢
  have HN := Lib.hid hnew; have HS1 := Lib.hid hs1
  clear hnew hs1
  go_loopg [4, 5] S.length (fun m s4 s5 wz => ∃ (k q : Nat) (b : Int), k ≤ S.length ∧ m = S.length - k ∧ s4 = .int .i64 b ∧ s5 = .int .i64 (k : Int) ∧ Hid (Best S k b) ∧ Hid (wz = w1.drewN q))
  case atStart => exact ⟨0, 0, -1, by omega, rfl, rfl, rfl, Lib.hid (.inl ⟨rfl, rfl⟩), Lib.hid rfl⟩
  case round =>
    obtain ⟨k, q, b, hk, rfl, rfl, rfl, HBe, HW⟩ := hrel
    have HQr : Hid (RQ wr base gb A c S last) := Lib.hid (by rw [HW.out]; exact HQ1.out.step (below_drewN _ _))
    have hc0 := HQr.out.cell0
    by_cases hkl : k < S.length
    · have hkl' : (k : Int) < S.length := by omega
      have hkp : (0 : Int) ≤ (k : Int) := by omega
      obtain ⟨p, hA, hpl, e1, _, _⟩ := HQr.out.row.rt.at' hkl
      rcases HBe.out with ⟨h0, hb⟩ | ⟨j, hb, hj, k1, k2⟩
      · have HB2 := Lib.hid (best_one (S := S) h0)
        subst hb; subst hA
        have hm1 : decide ((-1 : Int) < 0) = true := by decide
        clear h0
        go_wp2
        go_quiet (fail)
        go_wp2
        go_roundg (S.length - (k + 1))
        · exact ⟨k + 1, _, _, by omega, rfl, rfl, by simp, HB2, Lib.hid (by rw [HW.out, World.drewN_drewN])⟩
        · omega
      · have hj0 : decide ((j : Int) < 0) = false := by simp
        have hjl : (j : Int) < S.length := by omega
        have hjp : (0 : Int) ≤ (j : Int) := by omega
        obtain ⟨p', hA', _, f1, _, _⟩ := HQr.out.row.rt.at' (k := j) (by omega)
        rw [hA] at hA'
        injection hA' with hA'
        injection hA' with hA'
        subst hA'
        by_cases hd : (g S k).due < (g S j).due
        · have hd2 : decide ((g S k).due < (g S j).due) = true := by simpa using hd
          have HB2 : Hid (Best S (k + 1) (k : Int)) := Lib.hid (.inr ⟨k, rfl, by omega, fun i hi => by
            rcases (by omega : i = k ∨ i < k) with rfl | h
            · exact Int.le_refl _
            · have := k1 i h; omega, fun i hi => by have := k1 i hi; omega⟩)
          subst hb; subst hA
          clear k1 k2 hd
          generalize (g S k).due = dk at e1 hd2
          generalize (g S j).due = dj at f1 hd2
          go_wp2
          go_quiet (fail)
          go_wp2
          go_roundg (S.length - (k + 1))
          · exact ⟨k + 1, _, _, by omega, rfl, rfl, by simp, HB2, Lib.hid (by rw [HW.out, World.drewN_drewN])⟩
          · omega
        · have hd2 : decide ((g S k).due < (g S j).due) = false := by simp; omega
          have HB2 : Hid (Best S (k + 1) (j : Int)) := Lib.hid (.inr ⟨j, rfl, by omega, fun i hi => by
            rcases (by omega : i = k ∨ i < k) with rfl | h
            · omega
            · exact k1 i h, k2⟩)
          subst hb; subst hA
          clear k1 k2 hd
          generalize (g S k).due = dk at e1 hd2
          generalize (g S j).due = dj at f1 hd2
          go_wp2
          go_quiet (fail)
          go_wp2
          go_roundg (S.length - (k + 1))
          · exact ⟨k + 1, _, _, by omega, rfl, rfl, by simp, HB2, Lib.hid (by rw [HW.out, World.drewN_drewN])⟩
          · omega
    · have hkS : k = S.length := by omega
      obtain ⟨j, hb, hj, hgj⟩ := best_first HQ.out.good (by rw [← hkS]; exact HBe.out) HT.out
      have hkk : decide ((k : Int) < S.length) = false := by simp; omega
      have hj0 : decide ((j : Int) < 0) = false := by simp
      have hjl : (j : Int) < S.length := by omega
      obtain ⟨p, hA, hpl, e1, e2, e3⟩ := HQr.out.row.rt.at' hj
      rw [hgj] at e1 e2 e3
      have hne : p ≠ w.heap.size := by
        have := (HQ.out.row.lt p (by rw [hA]; rfl)).2
        omega
      have hgn : gb ≠ w.heap.size := by omega
      have x0 : wr.cell? ⟨w.heap.size, 0, none⟩ = some (.int .i64 0) := by rw [HW.out]; exact (cell_of_row w1 _ 0 _ 33 (0, 0) HN.out).trans rfl
      have x1 : wr.cell? ⟨w.heap.size, 1, none⟩ = some (.int .i64 0) := by rw [HW.out]; exact (cell_of_row w1 _ 1 _ 33 (0, 0) HN.out).trans rfl
      have x2 : wr.cell? ⟨w.heap.size, 2, none⟩ = some (.int .i64 0) := by rw [HW.out]; exact (cell_of_row w1 _ 2 _ 33 (0, 0) HN.out).trans rfl
      have xf : ∀ i, wr.frozen? ⟨w.heap.size, i, none⟩ = false := fun i => by rw [HW.out]; show w1.frozen? _ = false; simp [World.frozen?, HN.out]
      have y0 := xf 0; have y1 := xf 1; have y2 := xf 2
      have HBl : Hid (Below w.heap.size w wr) := Lib.hid (by rw [HW.out]; exact HB1.out.trans ((below_drewN _ _).mono (by have := HS1.out; omega)))
      subst hb; subst hA
      clear xf hkS hgj
      have s0 : (wr.setCell ⟨w.heap.size, 0, none⟩ (.int .i64 t.due)).cell? ⟨w.heap.size, 0, none⟩ = some (.int .i64 t.due) := World.cell?_setCell_same _ _ _ x0
      have s1 : (wr.setCell ⟨w.heap.size, 1, none⟩ (.int .i64 t.tag)).cell? ⟨w.heap.size, 1, none⟩ = some (.int .i64 t.tag) := World.cell?_setCell_same _ _ _ x1
      have s2 : (wr.setCell ⟨w.heap.size, 2, none⟩ (.int .i64 t.id)).cell? ⟨w.heap.size, 2, none⟩ = some (.int .i64 t.id) := World.cell?_setCell_same _ _ _ x2
      go_wp2
      refine bodyPost_ret (by simp [results, Try.results10, go_sem, x0, x1, x2]; try rfl) rfl ?_
      exact ⟨rfl, ((HBl.out.setCell (Nat.le_refl _) _).setCell (Nat.le_refl _) _).setCell (Nat.le_refl _) _⟩
end
end Go.Proofs.Ytibiobcjnnoeeaa.Con
