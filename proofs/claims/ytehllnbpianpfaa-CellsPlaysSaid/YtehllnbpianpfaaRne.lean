/-
  The document's own Near and Closest.
-/
import Derived.Test.YtehllnbpianpfaaRat
import Derived.Test.YtehllnbpianpfaaClo
namespace Go.Proofs.Ytehllnbpianpfaa.Con
open Go.RowKit Cll Go.Maps Go.Shelf

/-- The document's index beside the box of the tile that is asked for. -/
structure RB (w V : World) (base gb : Nat) (A : Option Addr) (c : Nat) (S : List Un) (px py : Int) : Prop where
  q : RQ V base gb A c S
  bel : Below w.heap.size w V
  box : V.heap[w.heap.size]? = some (.cells #[.int .i64 px, .int .i64 py] 32 (0, 0))
  old : ∀ k ∈ rbl gb A, k < w.heap.size
section
variable {w V V' : World} {base gb : Nat} {A : Option Addr} {c : Nat} {S : List Un} {px py : Int}
theorem RB.step (h : RB w V base gb A c S px py) (hb : Below V.heap.size V V') : RB w V' base gb A c S px py :=
  ⟨h.q.step hb, h.bel.trans (hb.mono h.bel.size), (hb.block _ (Array.getElem?_eq_some_iff.1 h.box).1).trans h.box, h.old⟩
theorem RB.lt (h : RB w V base gb A c S px py) : w.heap.size < V.heap.size := (Array.getElem?_eq_some_iff.1 h.box).1
theorem RB.start (h : RQ w base gb A c S) (px py : Int) : RB w (w.alloc (.cells #[.int .i64 px, .int .i64 py] 32)) base gb A c S px py :=
  have hb : Below w.heap.size w (w.alloc (.cells #[.int .i64 px, .int .i64 py] 32)) := (Below.refl _ w).alloc (Nat.le_refl _) _
  ⟨h.step hb, hb, heap_alloc_new w _, fun k hk => (h.lo' k hk).2⟩
theorem RB.grown {q : Option Nat} (h : RB w V base gb A c S px py) (hg : V.grownBy V' q) (hq : ∀ z, q = some z → w.heap.size + 1 ≤ z) : RB w V' base gb A c S px py :=
  ⟨h.q.keep hg.size (fun k hk => hg.block k (h.q.lo' k hk).2 (fun e => by have := hq k e.symm; have := h.old k hk; omega)), h.bel.grown hg h.bel.size (fun z hz => by have := hq z hz; omega), (hg.block _ h.lt (fun e => by have := hq _ e.symm; omega)).trans h.box, h.old⟩
theorem RB.cells {b k : Nat} (h : RB w V base gb (some ⟨b, 0, none⟩) c S px py) (hk : k < S.length) : V.cell? ⟨gb, 0, none⟩ = some (.slice (some ⟨b, 0, none⟩) S.length c) ∧ V.cell? ⟨b, k * 3, none⟩ = some (.int .i64 (g S k).id) ∧ V.cell? ⟨b, k * 3 + 1, none⟩ = some (.int .i64 (g S k).x) ∧ V.cell? ⟨b, k * 3 + 2, none⟩ = some (.int .i64 (g S k).y) ∧ V.cell? ⟨w.heap.size, 0, none⟩ = some (.int .i64 px) ∧ V.cell? ⟨w.heap.size, 1, none⟩ = some (.int .i64 py) := by
  obtain ⟨b', hA, _, q1, q2, q3⟩ := h.q.row.rt.at' hk
  injection hA with hA
  injection hA with hA
  subst hA
  exact ⟨h.q.cell0, q1, q2, q3, (cell_of_row V _ 0 _ 32 (0, 0) h.box).trans rfl, (cell_of_row V _ 1 _ 32 (0, 0) h.box).trans rfl⟩
end
section
variable {w : World} {base gb : Nat} {A : Option Addr} {c : Nat} {S : List Un}
set_option maxHeartbeats 4000000 in
theorem rnear_ix (h : RQ w base gb A c S) (hS : (S.length : Int) < 1000) (px py r : Int) (f1 : Fits px) (f2 : Fits py) (f3 : Fits r) : Calls Try.prog 18 #[.pointer (some ⟨gb, 0, none⟩), pv px py, .int .i64 r] w fun e w' => ∃ A' c' l, e = .returned (.slice A' (List.length l) c') ∧ Hid (l = ids S (nr px py r)) ∧ Hid (Mei.Rd .i64 w' w'.heap.size A' l) ∧ Hid (Below w.heap.size w w') := by
  have HG := Lib.hid h.good
  have HR0 := Lib.hid (RB.start h px py)
  have hlt := h.lt
  clear h
  go_enter Try.func18, Try.ntmps18
  go_wp2
  generalize w.alloc (.cells #[.int .i64 px, .int .i64 py] 32) = w1 at *
  go_loopg [7, 8] S.length (fun m s7 s8 wr => ∃ (k : Nat) (A' : Option Addr) (c' : Nat) (l : List Int), k ≤ S.length ∧ m = S.length - k ∧ s8 = .int .i64 (k : Int) ∧ s7 = .slice A' l.length c' ∧ Hid (l = ((S.take k).filter (nr px py r)).map (·.id)) ∧ Hid (Mei.Own wr (w.heap.size + 1) .i64 3 A' c' l) ∧ Hid (RB w wr base gb A c S px py))
  case atStart => exact ⟨0, none, 0, [], by omega, rfl, rfl, rfl, Lib.hid (by simp), Lib.hid (World.ownsRow_nil _ _ _ _), HR0⟩
  case round =>
    clear HR0
    obtain ⟨k, A', c', l, hk, rfl, rfl, rfl, HL, HW, HR⟩ := hrel
    have hc0 := HR.out.q.cell0
    by_cases hkl : k < S.length
    · have hkl' : (k : Int) < S.length := by omega
      have hkp : (0 : Int) ≤ (k : Int) := by omega
      obtain ⟨b, hA, hbl, _, _, _⟩ := HR.out.q.row.rt.at' hkl
      subst hA
      have hll : (l.length : Int) ≤ 1000 := by rw [HL.out, List.length_map]; have := List.length_filter_le (nr px py r) (S.take k); rw [List.length_take] at this; omega
      have ho := HG.out.ok _ (g_mem hkl)
      have ftx : Fits (g S k).x := by have := ho.2.1; unfold Fits; omega
      have fty : Fits (g S k).y := by have := ho.2.2; unfold Fits; omega
      have HC : Hid (∀ wz, Below wr.heap.size wr wz → wz.cell? ⟨gb, 0, none⟩ = some (.slice (some ⟨b, 0, none⟩) S.length c) ∧ wz.cell? ⟨b, k * 3, none⟩ = some (.int .i64 (g S k).id) ∧ wz.cell? ⟨b, k * 3 + 1, none⟩ = some (.int .i64 (g S k).x) ∧ wz.cell? ⟨b, k * 3 + 2, none⟩ = some (.int .i64 (g S k).y) ∧ wz.cell? ⟨w.heap.size, 0, none⟩ = some (.int .i64 px) ∧ wz.cell? ⟨w.heap.size, 1, none⟩ = some (.int .i64 py)) := Lib.hid (fun wz hz => (HR.out.step hz).cells hkl)
      obtain ⟨nb, hnb⟩ : ∃ nb, nr px py r (g S k) = nb := ⟨_, rfl⟩
      have HL2 : Hid (((S.take (k + 1)).filter (nr px py r)).map (·.id) = l ++ (if nb = true then [(g S k).id] else [])) := Lib.hid (by rw [ids_take (nr px py r) hkl, ← HL.out, hnb])
      have HN : Hid (∀ V', Calls Try.prog 27 #[pv (g S k).x (g S k).y, pv px py, .int .i64 r] V' fun e w' => e = .returned (.bool nb) ∧ Below V'.heap.size V' w') := Lib.hid (fun V' => by
        have e : nearB (g S k).x (g S k).y px py r = nb := by rw [← hnb]; exact nearB_comm _ _ _ _ _
        rw [← e]
        exact rnear_any (g S k).x (g S k).y px py r V' ftx fty f1 f2 f3)
      clear hnb HL ho ftx fty
      generalize (g S k).x = tx at *
      generalize (g S k).y = ty at *
      generalize (g S k).id = ti at *
      go_wp2
      have hS0 : Below wr.heap.size wr wr.drew := (Below.refl _ _).drew
      refine wp_region_noPanic ?_
      refine wp_region_held_drew (S := fun w' => Below wr.heap.size wr w') (by kernel_rfl) hS0 (fun _ => ?_)
      refine wpAnyH_take (i := 0) (oi := ⟨some 19, Op.move (Operand.tmp 0), 26, _, _, none⟩) (v := ?va0) rfl (by kernel_rfl) (by kernel_rfl) (by kernel_rfl) (fun _ _ _ h => h) (Or.inl ⟨by rfl, ?ha0⟩) hS0 ?ra0
      case ha0 => (intro wz hSw; go_simp <;> with_reducible rfl)
      (try simp only [Act.put, List.setIfInBounds_toArray, List.set_cons_zero, List.set_cons_succ])
      refine wpAnyH_take (i := 1) (oi := ⟨some 20, Op.nilCheck (Operand.tmp 19), 0, _, _, none⟩) (v := ?va1) rfl (by kernel_rfl) (by kernel_rfl) (by kernel_rfl) (fun _ _ _ h => h) (Or.inl ⟨by rfl, ?ha1⟩) hS0 ?ra1
      case ha1 => (intro wz hSw; go_simp <;> with_reducible rfl)
      (try simp only [Act.put, List.setIfInBounds_toArray, List.set_cons_zero, List.set_cons_succ])
      refine wpAnyH_take (i := 2) (oi := ⟨some 21, Op.fieldAddr 29 (Operand.tmp 20) 0, 0, _, _, none⟩) (v := ?va2) rfl (by kernel_rfl) (by kernel_rfl) (by kernel_rfl) (fun _ _ _ h => h) (Or.inl ⟨by rfl, ?ha2⟩) hS0 ?ra2
      case ha2 => (intro wz hSw; go_simp <;> with_reducible rfl)
      (try simp only [Act.put, List.setIfInBounds_toArray, List.set_cons_zero, List.set_cons_succ])
      refine wpAnyH_take (i := 3) (oi := ⟨some 22, Op.load 27 (Operand.tmp 21), 27, _, _, none⟩) (v := ?va3) rfl (by kernel_rfl) (by kernel_rfl) (by kernel_rfl) (fun _ _ _ h => h) (Or.inl ⟨by rfl, ?ha3⟩) hS0 ?ra3
      case ha3 => (intro wz hSw; obtain ⟨x0, q1, q2, q3, c0, c1⟩ := HC.out wz hSw; go_simp <;> with_reducible rfl)
      (try simp only [Act.put, List.setIfInBounds_toArray, List.set_cons_zero, List.set_cons_succ])
      refine wpAnyH_take (i := 4) (oi := ⟨some 23, Op.move (Operand.tmp 8), 3, _, _, none⟩) (v := ?va4) rfl (by kernel_rfl) (by kernel_rfl) (by kernel_rfl) (fun _ _ _ h => h) (Or.inl ⟨by rfl, ?ha4⟩) hS0 ?ra4
      case ha4 => (intro wz hSw; go_simp <;> with_reducible rfl)
      (try simp only [Act.put, List.setIfInBounds_toArray, List.set_cons_zero, List.set_cons_succ])
      refine wpAnyH_take (i := 5) (oi := ⟨some 24, Op.indexAddr 27 (Operand.tmp 22) (Operand.tmp 23), 0, _, _, none⟩) (v := ?va5) rfl (by kernel_rfl) (by kernel_rfl) (by kernel_rfl) (fun _ _ _ h => h) (Or.inl ⟨by rfl, ?ha5⟩) hS0 ?ra5
      case ha5 => (intro wz hSw; go_simp <;> with_reducible rfl)
      (try simp only [Act.put, List.setIfInBounds_toArray, List.set_cons_zero, List.set_cons_succ])
      refine wpAnyH_take (i := 6) (oi := ⟨some 25, Op.fieldAddr 57 (Operand.tmp 24) 1, 0, _, _, none⟩) (v := ?va6) rfl (by kernel_rfl) (by kernel_rfl) (by kernel_rfl) (fun _ _ _ h => h) (Or.inl ⟨by rfl, ?ha6⟩) hS0 ?ra6
      case ha6 => (intro wz hSw; go_simp <;> with_reducible rfl)
      (try simp only [Act.put, List.setIfInBounds_toArray, List.set_cons_zero, List.set_cons_succ])
      refine wpAnyH_take (i := 7) (oi := ⟨some 26, Op.load 32 (Operand.tmp 25), 32, _, _, none⟩) (v := ?va7) rfl (by kernel_rfl) (by kernel_rfl) (by kernel_rfl) (fun _ _ _ h => h) (Or.inl ⟨by rfl, ?ha7⟩) hS0 ?ra7
      case ha7 => (intro wz hSw; obtain ⟨x0, q1, q2, q3, c0, c1⟩ := HC.out wz hSw; go_simp <;> with_reducible rfl)
      (try simp only [Act.put, List.setIfInBounds_toArray, List.set_cons_zero, List.set_cons_succ])
      refine wpAnyH_take (i := 8) (oi := ⟨some 27, Op.load 32 (Operand.tmp 4), 32, _, _, none⟩) (v := ?va8) rfl (by kernel_rfl) (by kernel_rfl) (by kernel_rfl) (fun _ _ _ h => h) (Or.inl ⟨by rfl, ?ha8⟩) hS0 ?ra8
      case ha8 => (intro wz hSw; obtain ⟨x0, q1, q2, q3, c0, c1⟩ := HC.out wz hSw; go_simp <;> with_reducible rfl)
      (try simp only [Act.put, List.setIfInBounds_toArray, List.set_cons_zero, List.set_cons_succ])
      refine wpAnyH_take (i := 9) (oi := ⟨some 28, Op.move (Operand.tmp 2), 3, _, _, none⟩) (v := ?va9) rfl (by kernel_rfl) (by kernel_rfl) (by kernel_rfl) (fun _ _ _ h => h) (Or.inl ⟨by rfl, ?ha9⟩) hS0 ?ra9
      case ha9 => (intro wz hSw; go_simp <;> with_reducible rfl)
      (try simp only [Act.put, List.setIfInBounds_toArray, List.set_cons_zero, List.set_cons_succ])
      refine wpAnyH_ready (rs := [10]) (by kernel_rfl) (by simp) ?_
      refine AllReadyH.cons (o := ⟨some 29, Op.call { callee := Callee.value (Operand.func 27), args := #[Operand.tmp 26, Operand.tmp 27, Operand.tmp 28], argTypes := #[32, 32, 3] }, 4, _, _, none⟩) rfl (fun K hK => ?_) AllReadyH.nil
      go_simp
      (with_reducible refine (HN.out _).mono ?_); rintro e v1 ⟨rfl, hB1⟩; have hS1 := hS0.trans (hB1.mono hS0.size)
      refine hK.out _ _ hS1 (fun _ => ?_)
      clear hK K
      (try simp only [Act.put, List.setIfInBounds_toArray, List.set_cons_zero, List.set_cons_succ])
      refine wpAnyH_take (i := 11) (oi := ⟨some 9, Op.assign (Operand.tmp 29), 4, _, _, none⟩) (v := ?va11) rfl (by kernel_rfl) (by kernel_rfl) (by kernel_rfl) (fun _ _ _ h => h) (Or.inl ⟨by rfl, ?ha11⟩) hS1 ?ra11
      case ha11 => (intro wz hSw; go_simp <;> with_reducible rfl)
      (try simp only [Act.put, List.setIfInBounds_toArray, List.set_cons_zero, List.set_cons_succ])
      refine wpAnyH_done (by kernel_rfl) ?_ _
      refine NoPanic.normal ?_
      have HV := Lib.hid hS1
      generalize hv9 : v1 = V2 at HV ⊢
      clear hv9
      have HR2 := Lib.hid (HR.out.step HV.out)
      have HW2 := Lib.hid (mown_step HW.out HV.out)
      clear HW HR HN
      have hbs := HR2.out.lt
      have hk1 : k + 1 ≤ S.length := hkl
      cases nb with
      | false =>
        have HL3 : Hid (l = ((S.take (k + 1)).filter (nr px py r)).map (·.id)) := Lib.hid (by rw [HL2.out]; simp)
        clear HL2
        go_wp2
        go_roundg (S.length - (k + 1))
        · exact ⟨k + 1, A', c', l, hk1, rfl, by go_num, rfl, HL3, HW2, HR2⟩
        · omega
      | true =>
        have HL3 : Hid (((S.take (k + 1)).filter (nr px py r)).map (·.id) = l ++ [ti]) := Lib.hid (by rw [HL2.out]; simp)
        obtain ⟨x0, q1, q2, q3, _, _⟩ := HC.out V2 HV.out
        clear HL2 HC
        go_wp2_with (at_builtin; refine Mei.wpList_app (K := .i64) (t := 40) (e := 3) Try.underlying40 Mei.int_info rfl (by omega) rfl (.tmp 31) (.tmp 40) rfl (w.heap.size + 1) (V2.heap.size + 1) A' c' l [ti] _ _ rfl rfl (HW2.out.alloc _) (Mei.rd_new _ _ _ _ rfl) (by simp; omega) (by simp; omega) ?_; intro A2 c2 w2 lm HLm HO2 HS2)
        go_roundg (S.length - (k + 1))
        · refine ⟨k + 1, A2, c2, lm, hk1, rfl, by go_num, rfl, Lib.hid (by rw [HL3.out]; exact HLm.out), HO2, Lib.hid ?_⟩
          exact (HR2.out.step ((Below.refl _ _).alloc (Nat.le_refl _) (.cells #[.int .i64 ti] 3))).grown HS2.out.grown (fun z hz => (HW2.out.lt z hz).1)
        · omega
    · have hkk2 : ¬ (k : Int) < S.length := by omega
      have hkk : decide ((k : Int) < S.length) = false := by simp; omega
      have hke : k = S.length := by omega
      have HLe : Hid (l = ids S (nr px py r)) := Lib.hid (by rw [HL.out, hke, List.take_length]; rfl)
      clear hke hkl
      go_wp2
      go_ret
      exact ⟨A', c', l, rfl, HLe, Lib.hid (Mei.Rd.of_own HW.out), Lib.hid HR.out.bel⟩
end
/-- The number of the best of the first k, -1 for none. -/
def Bst (S : List Un) (px py nt : Int) (k : Nat) (b : Int) : Prop :=
  (b = -1 ∧ ∀ i, i < k → (g S i).id = nt) ∨ ∃ j : Nat, b = (j : Int) ∧ j < k ∧ (g S j).id ≠ nt ∧ ∀ i, i < k → (g S i).id ≠ nt → dist px py (g S j) ≤ dist px py (g S i) ∧ (i < j → dist px py (g S j) < dist px py (g S i))
theorem bst_skip {S : List Un} {px py nt : Int} {k : Nat} {b : Int} (h : Bst S px py nt k b) (hn : (g S k).id = nt) : Bst S px py nt (k + 1) b := by
  rcases h with ⟨h1, h2⟩ | ⟨j, h1, h2, h3, h4⟩
  · refine .inl ⟨h1, fun i hi => ?_⟩
    rcases (by omega : i = k ∨ i < k) with rfl | h
    · exact hn
    · exact h2 i h
  · refine .inr ⟨j, h1, by omega, h3, fun i hi hne => ?_⟩
    rcases (by omega : i = k ∨ i < k) with rfl | h
    · exact absurd hn hne
    · exact h4 i h hne
theorem bst_one {S : List Un} {px py nt : Int} {k : Nat} (h : ∀ i, i < k → (g S i).id = nt) (hn : (g S k).id ≠ nt) : Bst S px py nt (k + 1) (k : Int) := by
  refine .inr ⟨k, rfl, by omega, hn, fun i hi hne => ?_⟩
  rcases (by omega : i = k ∨ i < k) with rfl | h'
  · exact ⟨Int.le_refl _, fun h => by omega⟩
  · exact absurd (h i h') hne
theorem bst_new {S : List Un} {px py nt : Int} {k j : Nat} (h : Bst S px py nt k (j : Int)) (hn : (g S k).id ≠ nt) (hd : dist px py (g S k) < dist px py (g S j)) : Bst S px py nt (k + 1) (k : Int) := by
  rcases h with ⟨h1, _⟩ | ⟨j', h1, h2, h3, h4⟩
  · omega
  · obtain rfl : j = j' := by omega
    refine .inr ⟨k, rfl, by omega, hn, fun i hi hne => ?_⟩
    rcases (by omega : i = k ∨ i < k) with rfl | h'
    · exact ⟨Int.le_refl _, fun h => by omega⟩
    · have := (h4 i h' hne).1
      exact ⟨by omega, fun _ => by omega⟩
theorem bst_old {S : List Un} {px py nt : Int} {k j : Nat} (h : Bst S px py nt k (j : Int)) (hd : ¬ dist px py (g S k) < dist px py (g S j)) : Bst S px py nt (k + 1) (j : Int) := by
  rcases h with ⟨h1, _⟩ | ⟨j', h1, h2, h3, h4⟩
  · omega
  · obtain rfl : j = j' := by omega
    refine .inr ⟨j, rfl, by omega, h3, fun i hi hne => ?_⟩
    rcases (by omega : i = k ∨ i < k) with rfl | h'
    · exact ⟨by omega, fun h => by omega⟩
    · exact h4 i h' hne
theorem bst_none {S : List Un} {px py nt : Int} (h : Bst S px py nt S.length (-1)) : Best S px py nt (fun _ => true) false 0 0 := by
  rcases h with ⟨_, h2⟩ | ⟨j, h1, _⟩
  · refine ⟨fun _ => ⟨fun t ht _ => ?_, rfl, rfl⟩, fun h => (by cases h)⟩
    obtain ⟨i, hi, rfl⟩ := idx_of ht
    exact h2 i hi
  · omega
theorem bst_some {S : List Un} (hS : Cll.Good S) {px py nt : Int} {j : Nat} (h : Bst S px py nt S.length (j : Int)) : j < S.length ∧ Best S px py nt (fun _ => true) true (dist px py (g S j)) (g S j).id := by
  rcases h with ⟨h1, _⟩ | ⟨j', h1, h2, h3, h4⟩
  · omega
  · obtain rfl : j = j' := by omega
    refine ⟨h2, ⟨fun h => (by cases h), fun _ => ⟨⟨_, g_mem h2, rfl, h3, rfl, rfl⟩, fun t ht _ hn => ?_⟩⟩⟩
    obtain ⟨i, hi, rfl⟩ := idx_of ht
    obtain ⟨a1, a2⟩ := h4 i hi hn
    rcases Nat.lt_trichotomy i j with h | h | h
    · exact .inl (a2 h)
    · subst h; exact .inr ⟨rfl, Int.le_refl _⟩
    · have := asc_lt hS.asc h hi
      by_cases e : dist px py (g S j) = dist px py (g S i)
      · exact .inr ⟨e, by omega⟩
      · exact .inl (by omega)
section
variable {w : World} {base gb : Nat} {A : Option Addr} {c : Nat} {S : List Un}
set_option maxHeartbeats 8000000 in
theorem rclosest_ix (h : RQ w base gb A c S) (hS : (S.length : Int) < 1000) (px py nt : Int) (f1 : Fits px) (f2 : Fits py) : Calls Try.prog 15 #[.pointer (some ⟨gb, 0, none⟩), pv px py, .int .i64 nt] w fun e w' => ∃ f d k, e = .returned (.tuple #[.int .i64 k, .bool f]) ∧ Hid (Best S px py nt (fun _ => true) f d k) ∧ Hid (Below w.heap.size w w') := by
  have HG := Lib.hid h.good
  have HR0 := Lib.hid (RB.start h px py)
  have hlt := h.lt
  clear h
  go_enter Try.func15, Try.ntmps15
  go_wp2
  generalize w.alloc (.cells #[.int .i64 px, .int .i64 py] 32) = w1 at *
  go_loopg [8, 9] S.length (fun m s8 s9 wr => ∃ (k : Nat) (b : Int), k ≤ S.length ∧ m = S.length - k ∧ s9 = .int .i64 (k : Int) ∧ s8 = .int .i64 b ∧ Hid (Bst S px py nt k b) ∧ Hid (RB w wr base gb A c S px py))
  case atStart => exact ⟨0, -1, by omega, rfl, rfl, rfl, Lib.hid (.inl ⟨rfl, fun i hi => by omega⟩), HR0⟩
  case round =>
    clear HR0
    obtain ⟨k, bx, hk, rfl, rfl, rfl, HL, HR⟩ := hrel
    have hc0 := HR.out.q.cell0
    by_cases hkl : k < S.length
    · have hkl' : (k : Int) < S.length := by omega
      have hkp : (0 : Int) ≤ (k : Int) := by omega
      have hk1 : k + 1 ≤ S.length := hkl
      obtain ⟨b, hA, hbl, _, _, _⟩ := HR.out.q.row.rt.at' hkl
      subst hA
      have HC : Hid (∀ wz, Below wr.heap.size wr wz → wz.cell? ⟨gb, 0, none⟩ = some (.slice (some ⟨b, 0, none⟩) S.length c) ∧ wz.cell? ⟨b, k * 3, none⟩ = some (.int .i64 (g S k).id) ∧ wz.cell? ⟨b, k * 3 + 1, none⟩ = some (.int .i64 (g S k).x) ∧ wz.cell? ⟨b, k * 3 + 2, none⟩ = some (.int .i64 (g S k).y) ∧ wz.cell? ⟨w.heap.size, 0, none⟩ = some (.int .i64 px) ∧ wz.cell? ⟨w.heap.size, 1, none⟩ = some (.int .i64 py)) := Lib.hid (fun wz hz => (HR.out.step hz).cells hkl)
      by_cases hn : (g S k).id = nt
      · have hnn : ((g S k).id != nt) = false := by simpa using hn
        have HL2 := Lib.hid (bst_skip HL.out hn)
        clear HL hn
        generalize (g S k).x = tx at *
        generalize (g S k).y = ty at *
        generalize (g S k).id = ti at *
        go_wp2
        have hS0 : Below wr.heap.size wr wr.drew := (Below.refl _ _).drew
        refine wp_region_noPanic ?_
        refine wp_region_held_drew (S := fun w' => Below wr.heap.size wr w') (by kernel_rfl) hS0 (fun _ => ?_)
        refine wpAnyH_take (i := 0) (oi := ⟨some 19, Op.move (Operand.tmp 0), 26, _, _, none⟩) (v := ?vra0) rfl (by kernel_rfl) (by kernel_rfl) (by kernel_rfl) (fun _ _ _ h => h) (Or.inl ⟨by rfl, ?hra0⟩) hS0 ?rra0
        case hra0 => (intro wz hSw; go_simp <;> with_reducible rfl)
        (try simp only [Act.put, List.setIfInBounds_toArray, List.set_cons_zero, List.set_cons_succ])
        refine wpAnyH_take (i := 1) (oi := ⟨some 20, Op.nilCheck (Operand.tmp 19), 0, _, _, none⟩) (v := ?vra1) rfl (by kernel_rfl) (by kernel_rfl) (by kernel_rfl) (fun _ _ _ h => h) (Or.inl ⟨by rfl, ?hra1⟩) hS0 ?rra1
        case hra1 => (intro wz hSw; go_simp <;> with_reducible rfl)
        (try simp only [Act.put, List.setIfInBounds_toArray, List.set_cons_zero, List.set_cons_succ])
        refine wpAnyH_take (i := 2) (oi := ⟨some 21, Op.fieldAddr 29 (Operand.tmp 20) 0, 0, _, _, none⟩) (v := ?vra2) rfl (by kernel_rfl) (by kernel_rfl) (by kernel_rfl) (fun _ _ _ h => h) (Or.inl ⟨by rfl, ?hra2⟩) hS0 ?rra2
        case hra2 => (intro wz hSw; go_simp <;> with_reducible rfl)
        (try simp only [Act.put, List.setIfInBounds_toArray, List.set_cons_zero, List.set_cons_succ])
        refine wpAnyH_take (i := 3) (oi := ⟨some 22, Op.load 27 (Operand.tmp 21), 27, _, _, none⟩) (v := ?vra3) rfl (by kernel_rfl) (by kernel_rfl) (by kernel_rfl) (fun _ _ _ h => h) (Or.inl ⟨by rfl, ?hra3⟩) hS0 ?rra3
        case hra3 => (intro wz hSw; obtain ⟨x0, q1, q2, q3, c0, c1⟩ := HC.out wz hSw; go_simp <;> with_reducible rfl)
        (try simp only [Act.put, List.setIfInBounds_toArray, List.set_cons_zero, List.set_cons_succ])
        refine wpAnyH_take (i := 4) (oi := ⟨some 23, Op.move (Operand.tmp 9), 3, _, _, none⟩) (v := ?vra4) rfl (by kernel_rfl) (by kernel_rfl) (by kernel_rfl) (fun _ _ _ h => h) (Or.inl ⟨by rfl, ?hra4⟩) hS0 ?rra4
        case hra4 => (intro wz hSw; go_simp <;> with_reducible rfl)
        (try simp only [Act.put, List.setIfInBounds_toArray, List.set_cons_zero, List.set_cons_succ])
        refine wpAnyH_take (i := 5) (oi := ⟨some 24, Op.indexAddr 27 (Operand.tmp 22) (Operand.tmp 23), 0, _, _, none⟩) (v := ?vra5) rfl (by kernel_rfl) (by kernel_rfl) (by kernel_rfl) (fun _ _ _ h => h) (Or.inl ⟨by rfl, ?hra5⟩) hS0 ?rra5
        case hra5 => (intro wz hSw; go_simp <;> with_reducible rfl)
        (try simp only [Act.put, List.setIfInBounds_toArray, List.set_cons_zero, List.set_cons_succ])
        refine wpAnyH_take (i := 6) (oi := ⟨some 25, Op.fieldAddr 57 (Operand.tmp 24) 0, 0, _, _, none⟩) (v := ?vra6) rfl (by kernel_rfl) (by kernel_rfl) (by kernel_rfl) (fun _ _ _ h => h) (Or.inl ⟨by rfl, ?hra6⟩) hS0 ?rra6
        case hra6 => (intro wz hSw; go_simp <;> with_reducible rfl)
        (try simp only [Act.put, List.setIfInBounds_toArray, List.set_cons_zero, List.set_cons_succ])
        refine wpAnyH_take (i := 7) (oi := ⟨some 26, Op.load 3 (Operand.tmp 25), 3, _, _, none⟩) (v := ?vra7) rfl (by kernel_rfl) (by kernel_rfl) (by kernel_rfl) (fun _ _ _ h => h) (Or.inl ⟨by rfl, ?hra7⟩) hS0 ?rra7
        case hra7 => (intro wz hSw; obtain ⟨x0, q1, q2, q3, c0, c1⟩ := HC.out wz hSw; go_simp <;> with_reducible rfl)
        (try simp only [Act.put, List.setIfInBounds_toArray, List.set_cons_zero, List.set_cons_succ])
        refine wpAnyH_take (i := 8) (oi := ⟨some 27, Op.move (Operand.tmp 2), 3, _, _, none⟩) (v := ?vra8) rfl (by kernel_rfl) (by kernel_rfl) (by kernel_rfl) (fun _ _ _ h => h) (Or.inl ⟨by rfl, ?hra8⟩) hS0 ?rra8
        case hra8 => (intro wz hSw; go_simp <;> with_reducible rfl)
        (try simp only [Act.put, List.setIfInBounds_toArray, List.set_cons_zero, List.set_cons_succ])
        refine wpAnyH_take (i := 9) (oi := ⟨some 28, Op.binOp BinOp.neq 3 (Operand.tmp 26) (Operand.tmp 27) 3, 4, _, _, none⟩) (v := ?vra9) rfl (by kernel_rfl) (by kernel_rfl) (by kernel_rfl) (fun _ _ _ h => h) (Or.inl ⟨by rfl, ?hra9⟩) hS0 ?rra9
        case hra9 => (intro wz hSw; go_simp <;> with_reducible rfl)
        (try simp only [Act.put, List.setIfInBounds_toArray, List.set_cons_zero, List.set_cons_succ])
        refine wpAnyH_take (i := 10) (oi := ⟨some 29, Op.move (Operand.tmp 28), 4, _, _, none⟩) (v := ?vra10) rfl (by kernel_rfl) (by kernel_rfl) (by kernel_rfl) (fun _ _ _ h => h) (Or.inl ⟨by rfl, ?hra10⟩) hS0 ?rra10
        case hra10 => (intro wz hSw; go_simp <;> with_reducible rfl)
        (try simp only [Act.put, List.setIfInBounds_toArray, List.set_cons_zero, List.set_cons_succ])
        refine wpAnyH_take (i := 11) (oi := ⟨some 30, Op.move (Operand.tmp 8), 3, _, _, some (10, true)⟩) (v := undef) rfl (by kernel_rfl) (by kernel_rfl) (by kernel_rfl) (fun _ _ _ h => h) (Or.inr ⟨by rfl, rfl⟩) hS0 ?rra11
        (try simp only [Act.put, List.setIfInBounds_toArray, List.set_cons_zero, List.set_cons_succ])
        refine wpAnyH_take (i := 12) (oi := ⟨some 31, Op.binOp BinOp.lss 3 (Operand.tmp 30) (Operand.const (Value.int IntKind.i64 0)) 3, 4, _, _, some (10, true)⟩) (v := undef) rfl (by kernel_rfl) (by kernel_rfl) (by kernel_rfl) (fun _ _ _ h => h) (Or.inr ⟨by rfl, rfl⟩) hS0 ?rra12
        (try simp only [Act.put, List.setIfInBounds_toArray, List.set_cons_zero, List.set_cons_succ])
        refine wpAnyH_take (i := 13) (oi := ⟨some 32, Op.move (Operand.tmp 31), 4, _, _, some (10, true)⟩) (v := undef) rfl (by kernel_rfl) (by kernel_rfl) (by kernel_rfl) (fun _ _ _ h => h) (Or.inr ⟨by rfl, rfl⟩) hS0 ?rra13
        (try simp only [Act.put, List.setIfInBounds_toArray, List.set_cons_zero, List.set_cons_succ])
        refine wpAnyH_take (i := 14) (oi := ⟨some 33, Op.load 32 (Operand.tmp 4), 32, _, _, some (13, false)⟩) (v := undef) rfl (by kernel_rfl) (by kernel_rfl) (by kernel_rfl) (fun _ _ _ h => h) (Or.inr ⟨by rfl, rfl⟩) hS0 ?rra14
        (try simp only [Act.put, List.setIfInBounds_toArray, List.set_cons_zero, List.set_cons_succ])
        refine wpAnyH_take (i := 15) (oi := ⟨some 34, Op.move (Operand.tmp 0), 26, _, _, some (13, false)⟩) (v := undef) rfl (by kernel_rfl) (by kernel_rfl) (by kernel_rfl) (fun _ _ _ h => h) (Or.inr ⟨by rfl, rfl⟩) hS0 ?rra15
        (try simp only [Act.put, List.setIfInBounds_toArray, List.set_cons_zero, List.set_cons_succ])
        refine wpAnyH_take (i := 16) (oi := ⟨some 35, Op.nilCheck (Operand.tmp 34), 0, _, _, some (13, false)⟩) (v := undef) rfl (by kernel_rfl) (by kernel_rfl) (by kernel_rfl) (fun _ _ _ h => h) (Or.inr ⟨by rfl, rfl⟩) hS0 ?rra16
        (try simp only [Act.put, List.setIfInBounds_toArray, List.set_cons_zero, List.set_cons_succ])
        refine wpAnyH_take (i := 17) (oi := ⟨some 36, Op.fieldAddr 29 (Operand.tmp 35) 0, 0, _, _, some (13, false)⟩) (v := undef) rfl (by kernel_rfl) (by kernel_rfl) (by kernel_rfl) (fun _ _ _ h => h) (Or.inr ⟨by rfl, rfl⟩) hS0 ?rra17
        (try simp only [Act.put, List.setIfInBounds_toArray, List.set_cons_zero, List.set_cons_succ])
        refine wpAnyH_take (i := 18) (oi := ⟨some 37, Op.load 27 (Operand.tmp 36), 27, _, _, some (13, false)⟩) (v := undef) rfl (by kernel_rfl) (by kernel_rfl) (by kernel_rfl) (fun _ _ _ h => h) (Or.inr ⟨by rfl, rfl⟩) hS0 ?rra18
        (try simp only [Act.put, List.setIfInBounds_toArray, List.set_cons_zero, List.set_cons_succ])
        refine wpAnyH_take (i := 19) (oi := ⟨some 38, Op.move (Operand.tmp 9), 3, _, _, some (13, false)⟩) (v := undef) rfl (by kernel_rfl) (by kernel_rfl) (by kernel_rfl) (fun _ _ _ h => h) (Or.inr ⟨by rfl, rfl⟩) hS0 ?rra19
        (try simp only [Act.put, List.setIfInBounds_toArray, List.set_cons_zero, List.set_cons_succ])
        refine wpAnyH_take (i := 20) (oi := ⟨some 39, Op.indexAddr 27 (Operand.tmp 37) (Operand.tmp 38), 0, _, _, some (13, false)⟩) (v := undef) rfl (by kernel_rfl) (by kernel_rfl) (by kernel_rfl) (fun _ _ _ h => h) (Or.inr ⟨by rfl, rfl⟩) hS0 ?rra20
        (try simp only [Act.put, List.setIfInBounds_toArray, List.set_cons_zero, List.set_cons_succ])
        refine wpAnyH_take (i := 21) (oi := ⟨some 40, Op.fieldAddr 57 (Operand.tmp 39) 1, 0, _, _, some (13, false)⟩) (v := undef) rfl (by kernel_rfl) (by kernel_rfl) (by kernel_rfl) (fun _ _ _ h => h) (Or.inr ⟨by rfl, rfl⟩) hS0 ?rra21
        (try simp only [Act.put, List.setIfInBounds_toArray, List.set_cons_zero, List.set_cons_succ])
        refine wpAnyH_take (i := 22) (oi := ⟨some 41, Op.load 32 (Operand.tmp 40), 32, _, _, some (13, false)⟩) (v := undef) rfl (by kernel_rfl) (by kernel_rfl) (by kernel_rfl) (fun _ _ _ h => h) (Or.inr ⟨by rfl, rfl⟩) hS0 ?rra22
        (try simp only [Act.put, List.setIfInBounds_toArray, List.set_cons_zero, List.set_cons_succ])
        refine wpAnyH_take (i := 23) (oi := ⟨some 42, Op.call { callee := Callee.value (Operand.func 25), args := #[Operand.tmp 33, Operand.tmp 41], argTypes := #[32, 32] }, 3, _, _, some (13, false)⟩) (v := undef) rfl (by kernel_rfl) (by kernel_rfl) (by kernel_rfl) (fun _ _ _ h => h) (Or.inr ⟨by rfl, rfl⟩) hS0 ?rra23
        (try simp only [Act.put, List.setIfInBounds_toArray, List.set_cons_zero, List.set_cons_succ])
        refine wpAnyH_take (i := 24) (oi := ⟨some 43, Op.load 32 (Operand.tmp 4), 32, _, _, some (13, false)⟩) (v := undef) rfl (by kernel_rfl) (by kernel_rfl) (by kernel_rfl) (fun _ _ _ h => h) (Or.inr ⟨by rfl, rfl⟩) hS0 ?rra24
        (try simp only [Act.put, List.setIfInBounds_toArray, List.set_cons_zero, List.set_cons_succ])
        refine wpAnyH_take (i := 25) (oi := ⟨some 44, Op.move (Operand.tmp 0), 26, _, _, some (13, false)⟩) (v := undef) rfl (by kernel_rfl) (by kernel_rfl) (by kernel_rfl) (fun _ _ _ h => h) (Or.inr ⟨by rfl, rfl⟩) hS0 ?rra25
        (try simp only [Act.put, List.setIfInBounds_toArray, List.set_cons_zero, List.set_cons_succ])
        refine wpAnyH_take (i := 26) (oi := ⟨some 45, Op.nilCheck (Operand.tmp 44), 0, _, _, some (13, false)⟩) (v := undef) rfl (by kernel_rfl) (by kernel_rfl) (by kernel_rfl) (fun _ _ _ h => h) (Or.inr ⟨by rfl, rfl⟩) hS0 ?rra26
        (try simp only [Act.put, List.setIfInBounds_toArray, List.set_cons_zero, List.set_cons_succ])
        refine wpAnyH_take (i := 27) (oi := ⟨some 46, Op.fieldAddr 29 (Operand.tmp 45) 0, 0, _, _, some (13, false)⟩) (v := undef) rfl (by kernel_rfl) (by kernel_rfl) (by kernel_rfl) (fun _ _ _ h => h) (Or.inr ⟨by rfl, rfl⟩) hS0 ?rra27
        (try simp only [Act.put, List.setIfInBounds_toArray, List.set_cons_zero, List.set_cons_succ])
        refine wpAnyH_take (i := 28) (oi := ⟨some 47, Op.load 27 (Operand.tmp 46), 27, _, _, some (13, false)⟩) (v := undef) rfl (by kernel_rfl) (by kernel_rfl) (by kernel_rfl) (fun _ _ _ h => h) (Or.inr ⟨by rfl, rfl⟩) hS0 ?rra28
        (try simp only [Act.put, List.setIfInBounds_toArray, List.set_cons_zero, List.set_cons_succ])
        refine wpAnyH_take (i := 29) (oi := ⟨some 48, Op.move (Operand.tmp 8), 3, _, _, some (13, false)⟩) (v := undef) rfl (by kernel_rfl) (by kernel_rfl) (by kernel_rfl) (fun _ _ _ h => h) (Or.inr ⟨by rfl, rfl⟩) hS0 ?rra29
        (try simp only [Act.put, List.setIfInBounds_toArray, List.set_cons_zero, List.set_cons_succ])
        refine wpAnyH_take (i := 30) (oi := ⟨some 49, Op.indexAddr 27 (Operand.tmp 47) (Operand.tmp 48), 0, _, _, some (13, false)⟩) (v := undef) rfl (by kernel_rfl) (by kernel_rfl) (by kernel_rfl) (fun _ _ _ h => h) (Or.inr ⟨by rfl, rfl⟩) hS0 ?rra30
        (try simp only [Act.put, List.setIfInBounds_toArray, List.set_cons_zero, List.set_cons_succ])
        refine wpAnyH_take (i := 31) (oi := ⟨some 50, Op.fieldAddr 57 (Operand.tmp 49) 1, 0, _, _, some (13, false)⟩) (v := undef) rfl (by kernel_rfl) (by kernel_rfl) (by kernel_rfl) (fun _ _ _ h => h) (Or.inr ⟨by rfl, rfl⟩) hS0 ?rra31
        (try simp only [Act.put, List.setIfInBounds_toArray, List.set_cons_zero, List.set_cons_succ])
        refine wpAnyH_take (i := 32) (oi := ⟨some 51, Op.load 32 (Operand.tmp 50), 32, _, _, some (13, false)⟩) (v := undef) rfl (by kernel_rfl) (by kernel_rfl) (by kernel_rfl) (fun _ _ _ h => h) (Or.inr ⟨by rfl, rfl⟩) hS0 ?rra32
        (try simp only [Act.put, List.setIfInBounds_toArray, List.set_cons_zero, List.set_cons_succ])
        refine wpAnyH_take (i := 33) (oi := ⟨some 52, Op.call { callee := Callee.value (Operand.func 25), args := #[Operand.tmp 43, Operand.tmp 51], argTypes := #[32, 32] }, 3, _, _, some (13, false)⟩) (v := undef) rfl (by kernel_rfl) (by kernel_rfl) (by kernel_rfl) (fun _ _ _ h => h) (Or.inr ⟨by rfl, rfl⟩) hS0 ?rra33
        (try simp only [Act.put, List.setIfInBounds_toArray, List.set_cons_zero, List.set_cons_succ])
        refine wpAnyH_take (i := 34) (oi := ⟨some 53, Op.binOp BinOp.lss 3 (Operand.tmp 42) (Operand.tmp 52) 3, 4, _, _, some (13, false)⟩) (v := undef) rfl (by kernel_rfl) (by kernel_rfl) (by kernel_rfl) (fun _ _ _ h => h) (Or.inr ⟨by rfl, rfl⟩) hS0 ?rra34
        (try simp only [Act.put, List.setIfInBounds_toArray, List.set_cons_zero, List.set_cons_succ])
        refine wpAnyH_take (i := 35) (oi := ⟨some 54, Op.pick (Operand.tmp 32) (Operand.const (Value.bool true)) (Operand.tmp 53), 4, _, _, some (10, true)⟩) (v := undef) rfl (by kernel_rfl) (by kernel_rfl) (by kernel_rfl) (fun _ _ _ h => h) (Or.inr ⟨by rfl, rfl⟩) hS0 ?rra35
        (try simp only [Act.put, List.setIfInBounds_toArray, List.set_cons_zero, List.set_cons_succ])
        refine wpAnyH_take (i := 36) (oi := ⟨some 55, Op.pick (Operand.tmp 29) (Operand.tmp 54) (Operand.const (Value.bool false)), 4, _, _, none⟩) (v := ?vra36) rfl (by kernel_rfl) (by kernel_rfl) (by kernel_rfl) (fun _ _ _ h => h) (Or.inl ⟨by rfl, ?hra36⟩) hS0 ?rra36
        case hra36 => (intro wz hSw; go_simp <;> with_reducible rfl)
        (try simp only [Act.put, List.setIfInBounds_toArray, List.set_cons_zero, List.set_cons_succ])
        refine wpAnyH_done (by kernel_rfl) ?_ _
        refine NoPanic.normal ?_
        have HV := Lib.hid hS0
        generalize hv9 : wr.drew = V2 at HV ⊢
        clear hv9
        have HR2 := Lib.hid (HR.out.step HV.out)
        go_wp2
        go_roundg (S.length - (k + 1))
        · exact ⟨k + 1, bx, hk1, rfl, by go_num, rfl, HL2, HR2⟩
        · omega
      · have hnn : ((g S k).id != nt) = true := by simpa using hn
        rcases HL.out with ⟨rfl, h2⟩ | ⟨j, rfl, h2, h3, h4⟩
        · have HL2 := Lib.hid (bst_one (px := px) (py := py) h2 hn)
          have hm1 : decide ((-1 : Int) < 0) = true := by decide
          clear HL hn h2
          generalize (g S k).x = tx at *
          generalize (g S k).y = ty at *
          generalize (g S k).id = ti at *
          go_wp2
          have hS0 : Below wr.heap.size wr wr.drew := (Below.refl _ _).drew
          refine wp_region_noPanic ?_
          refine wp_region_held_drew (S := fun w' => Below wr.heap.size wr w') (by kernel_rfl) hS0 (fun _ => ?_)
          refine wpAnyH_take (i := 0) (oi := ⟨some 19, Op.move (Operand.tmp 0), 26, _, _, none⟩) (v := ?vrb0) rfl (by kernel_rfl) (by kernel_rfl) (by kernel_rfl) (fun _ _ _ h => h) (Or.inl ⟨by rfl, ?hrb0⟩) hS0 ?rrb0
          case hrb0 => (intro wz hSw; go_simp <;> with_reducible rfl)
          (try simp only [Act.put, List.setIfInBounds_toArray, List.set_cons_zero, List.set_cons_succ])
          refine wpAnyH_take (i := 1) (oi := ⟨some 20, Op.nilCheck (Operand.tmp 19), 0, _, _, none⟩) (v := ?vrb1) rfl (by kernel_rfl) (by kernel_rfl) (by kernel_rfl) (fun _ _ _ h => h) (Or.inl ⟨by rfl, ?hrb1⟩) hS0 ?rrb1
          case hrb1 => (intro wz hSw; go_simp <;> with_reducible rfl)
          (try simp only [Act.put, List.setIfInBounds_toArray, List.set_cons_zero, List.set_cons_succ])
          refine wpAnyH_take (i := 2) (oi := ⟨some 21, Op.fieldAddr 29 (Operand.tmp 20) 0, 0, _, _, none⟩) (v := ?vrb2) rfl (by kernel_rfl) (by kernel_rfl) (by kernel_rfl) (fun _ _ _ h => h) (Or.inl ⟨by rfl, ?hrb2⟩) hS0 ?rrb2
          case hrb2 => (intro wz hSw; go_simp <;> with_reducible rfl)
          (try simp only [Act.put, List.setIfInBounds_toArray, List.set_cons_zero, List.set_cons_succ])
          refine wpAnyH_take (i := 3) (oi := ⟨some 22, Op.load 27 (Operand.tmp 21), 27, _, _, none⟩) (v := ?vrb3) rfl (by kernel_rfl) (by kernel_rfl) (by kernel_rfl) (fun _ _ _ h => h) (Or.inl ⟨by rfl, ?hrb3⟩) hS0 ?rrb3
          case hrb3 => (intro wz hSw; obtain ⟨x0, q1, q2, q3, c0, c1⟩ := HC.out wz hSw; go_simp <;> with_reducible rfl)
          (try simp only [Act.put, List.setIfInBounds_toArray, List.set_cons_zero, List.set_cons_succ])
          refine wpAnyH_take (i := 4) (oi := ⟨some 23, Op.move (Operand.tmp 9), 3, _, _, none⟩) (v := ?vrb4) rfl (by kernel_rfl) (by kernel_rfl) (by kernel_rfl) (fun _ _ _ h => h) (Or.inl ⟨by rfl, ?hrb4⟩) hS0 ?rrb4
          case hrb4 => (intro wz hSw; go_simp <;> with_reducible rfl)
          (try simp only [Act.put, List.setIfInBounds_toArray, List.set_cons_zero, List.set_cons_succ])
          refine wpAnyH_take (i := 5) (oi := ⟨some 24, Op.indexAddr 27 (Operand.tmp 22) (Operand.tmp 23), 0, _, _, none⟩) (v := ?vrb5) rfl (by kernel_rfl) (by kernel_rfl) (by kernel_rfl) (fun _ _ _ h => h) (Or.inl ⟨by rfl, ?hrb5⟩) hS0 ?rrb5
          case hrb5 => (intro wz hSw; go_simp <;> with_reducible rfl)
          (try simp only [Act.put, List.setIfInBounds_toArray, List.set_cons_zero, List.set_cons_succ])
          refine wpAnyH_take (i := 6) (oi := ⟨some 25, Op.fieldAddr 57 (Operand.tmp 24) 0, 0, _, _, none⟩) (v := ?vrb6) rfl (by kernel_rfl) (by kernel_rfl) (by kernel_rfl) (fun _ _ _ h => h) (Or.inl ⟨by rfl, ?hrb6⟩) hS0 ?rrb6
          case hrb6 => (intro wz hSw; go_simp <;> with_reducible rfl)
          (try simp only [Act.put, List.setIfInBounds_toArray, List.set_cons_zero, List.set_cons_succ])
          refine wpAnyH_take (i := 7) (oi := ⟨some 26, Op.load 3 (Operand.tmp 25), 3, _, _, none⟩) (v := ?vrb7) rfl (by kernel_rfl) (by kernel_rfl) (by kernel_rfl) (fun _ _ _ h => h) (Or.inl ⟨by rfl, ?hrb7⟩) hS0 ?rrb7
          case hrb7 => (intro wz hSw; obtain ⟨x0, q1, q2, q3, c0, c1⟩ := HC.out wz hSw; go_simp <;> with_reducible rfl)
          (try simp only [Act.put, List.setIfInBounds_toArray, List.set_cons_zero, List.set_cons_succ])
          refine wpAnyH_take (i := 8) (oi := ⟨some 27, Op.move (Operand.tmp 2), 3, _, _, none⟩) (v := ?vrb8) rfl (by kernel_rfl) (by kernel_rfl) (by kernel_rfl) (fun _ _ _ h => h) (Or.inl ⟨by rfl, ?hrb8⟩) hS0 ?rrb8
          case hrb8 => (intro wz hSw; go_simp <;> with_reducible rfl)
          (try simp only [Act.put, List.setIfInBounds_toArray, List.set_cons_zero, List.set_cons_succ])
          refine wpAnyH_take (i := 9) (oi := ⟨some 28, Op.binOp BinOp.neq 3 (Operand.tmp 26) (Operand.tmp 27) 3, 4, _, _, none⟩) (v := ?vrb9) rfl (by kernel_rfl) (by kernel_rfl) (by kernel_rfl) (fun _ _ _ h => h) (Or.inl ⟨by rfl, ?hrb9⟩) hS0 ?rrb9
          case hrb9 => (intro wz hSw; go_simp <;> with_reducible rfl)
          (try simp only [Act.put, List.setIfInBounds_toArray, List.set_cons_zero, List.set_cons_succ])
          refine wpAnyH_take (i := 10) (oi := ⟨some 29, Op.move (Operand.tmp 28), 4, _, _, none⟩) (v := ?vrb10) rfl (by kernel_rfl) (by kernel_rfl) (by kernel_rfl) (fun _ _ _ h => h) (Or.inl ⟨by rfl, ?hrb10⟩) hS0 ?rrb10
          case hrb10 => (intro wz hSw; go_simp <;> with_reducible rfl)
          (try simp only [Act.put, List.setIfInBounds_toArray, List.set_cons_zero, List.set_cons_succ])
          refine wpAnyH_take (i := 11) (oi := ⟨some 30, Op.move (Operand.tmp 8), 3, _, _, some (10, true)⟩) (v := ?vrb11) rfl (by kernel_rfl) (by kernel_rfl) (by kernel_rfl) (fun _ _ _ h => h) (Or.inl ⟨by rfl, ?hrb11⟩) hS0 ?rrb11
          case hrb11 => (intro wz hSw; go_simp <;> with_reducible rfl)
          (try simp only [Act.put, List.setIfInBounds_toArray, List.set_cons_zero, List.set_cons_succ])
          refine wpAnyH_take (i := 12) (oi := ⟨some 31, Op.binOp BinOp.lss 3 (Operand.tmp 30) (Operand.const (Value.int IntKind.i64 0)) 3, 4, _, _, some (10, true)⟩) (v := ?vrb12) rfl (by kernel_rfl) (by kernel_rfl) (by kernel_rfl) (fun _ _ _ h => h) (Or.inl ⟨by rfl, ?hrb12⟩) hS0 ?rrb12
          case hrb12 => (intro wz hSw; go_simp <;> with_reducible rfl)
          (try simp only [Act.put, List.setIfInBounds_toArray, List.set_cons_zero, List.set_cons_succ])
          refine wpAnyH_take (i := 13) (oi := ⟨some 32, Op.move (Operand.tmp 31), 4, _, _, some (10, true)⟩) (v := ?vrb13) rfl (by kernel_rfl) (by kernel_rfl) (by kernel_rfl) (fun _ _ _ h => h) (Or.inl ⟨by rfl, ?hrb13⟩) hS0 ?rrb13
          case hrb13 => (intro wz hSw; go_simp <;> with_reducible rfl)
          (try simp only [Act.put, List.setIfInBounds_toArray, List.set_cons_zero, List.set_cons_succ])
          refine wpAnyH_take (i := 14) (oi := ⟨some 33, Op.load 32 (Operand.tmp 4), 32, _, _, some (13, false)⟩) (v := undef) rfl (by kernel_rfl) (by kernel_rfl) (by kernel_rfl) (fun _ _ _ h => h) (Or.inr ⟨by rfl, rfl⟩) hS0 ?rrb14
          (try simp only [Act.put, List.setIfInBounds_toArray, List.set_cons_zero, List.set_cons_succ])
          refine wpAnyH_take (i := 15) (oi := ⟨some 34, Op.move (Operand.tmp 0), 26, _, _, some (13, false)⟩) (v := undef) rfl (by kernel_rfl) (by kernel_rfl) (by kernel_rfl) (fun _ _ _ h => h) (Or.inr ⟨by rfl, rfl⟩) hS0 ?rrb15
          (try simp only [Act.put, List.setIfInBounds_toArray, List.set_cons_zero, List.set_cons_succ])
          refine wpAnyH_take (i := 16) (oi := ⟨some 35, Op.nilCheck (Operand.tmp 34), 0, _, _, some (13, false)⟩) (v := undef) rfl (by kernel_rfl) (by kernel_rfl) (by kernel_rfl) (fun _ _ _ h => h) (Or.inr ⟨by rfl, rfl⟩) hS0 ?rrb16
          (try simp only [Act.put, List.setIfInBounds_toArray, List.set_cons_zero, List.set_cons_succ])
          refine wpAnyH_take (i := 17) (oi := ⟨some 36, Op.fieldAddr 29 (Operand.tmp 35) 0, 0, _, _, some (13, false)⟩) (v := undef) rfl (by kernel_rfl) (by kernel_rfl) (by kernel_rfl) (fun _ _ _ h => h) (Or.inr ⟨by rfl, rfl⟩) hS0 ?rrb17
          (try simp only [Act.put, List.setIfInBounds_toArray, List.set_cons_zero, List.set_cons_succ])
          refine wpAnyH_take (i := 18) (oi := ⟨some 37, Op.load 27 (Operand.tmp 36), 27, _, _, some (13, false)⟩) (v := undef) rfl (by kernel_rfl) (by kernel_rfl) (by kernel_rfl) (fun _ _ _ h => h) (Or.inr ⟨by rfl, rfl⟩) hS0 ?rrb18
          (try simp only [Act.put, List.setIfInBounds_toArray, List.set_cons_zero, List.set_cons_succ])
          refine wpAnyH_take (i := 19) (oi := ⟨some 38, Op.move (Operand.tmp 9), 3, _, _, some (13, false)⟩) (v := undef) rfl (by kernel_rfl) (by kernel_rfl) (by kernel_rfl) (fun _ _ _ h => h) (Or.inr ⟨by rfl, rfl⟩) hS0 ?rrb19
          (try simp only [Act.put, List.setIfInBounds_toArray, List.set_cons_zero, List.set_cons_succ])
          refine wpAnyH_take (i := 20) (oi := ⟨some 39, Op.indexAddr 27 (Operand.tmp 37) (Operand.tmp 38), 0, _, _, some (13, false)⟩) (v := undef) rfl (by kernel_rfl) (by kernel_rfl) (by kernel_rfl) (fun _ _ _ h => h) (Or.inr ⟨by rfl, rfl⟩) hS0 ?rrb20
          (try simp only [Act.put, List.setIfInBounds_toArray, List.set_cons_zero, List.set_cons_succ])
          refine wpAnyH_take (i := 21) (oi := ⟨some 40, Op.fieldAddr 57 (Operand.tmp 39) 1, 0, _, _, some (13, false)⟩) (v := undef) rfl (by kernel_rfl) (by kernel_rfl) (by kernel_rfl) (fun _ _ _ h => h) (Or.inr ⟨by rfl, rfl⟩) hS0 ?rrb21
          (try simp only [Act.put, List.setIfInBounds_toArray, List.set_cons_zero, List.set_cons_succ])
          refine wpAnyH_take (i := 22) (oi := ⟨some 41, Op.load 32 (Operand.tmp 40), 32, _, _, some (13, false)⟩) (v := undef) rfl (by kernel_rfl) (by kernel_rfl) (by kernel_rfl) (fun _ _ _ h => h) (Or.inr ⟨by rfl, rfl⟩) hS0 ?rrb22
          (try simp only [Act.put, List.setIfInBounds_toArray, List.set_cons_zero, List.set_cons_succ])
          refine wpAnyH_take (i := 23) (oi := ⟨some 42, Op.call { callee := Callee.value (Operand.func 25), args := #[Operand.tmp 33, Operand.tmp 41], argTypes := #[32, 32] }, 3, _, _, some (13, false)⟩) (v := undef) rfl (by kernel_rfl) (by kernel_rfl) (by kernel_rfl) (fun _ _ _ h => h) (Or.inr ⟨by rfl, rfl⟩) hS0 ?rrb23
          (try simp only [Act.put, List.setIfInBounds_toArray, List.set_cons_zero, List.set_cons_succ])
          refine wpAnyH_take (i := 24) (oi := ⟨some 43, Op.load 32 (Operand.tmp 4), 32, _, _, some (13, false)⟩) (v := undef) rfl (by kernel_rfl) (by kernel_rfl) (by kernel_rfl) (fun _ _ _ h => h) (Or.inr ⟨by rfl, rfl⟩) hS0 ?rrb24
          (try simp only [Act.put, List.setIfInBounds_toArray, List.set_cons_zero, List.set_cons_succ])
          refine wpAnyH_take (i := 25) (oi := ⟨some 44, Op.move (Operand.tmp 0), 26, _, _, some (13, false)⟩) (v := undef) rfl (by kernel_rfl) (by kernel_rfl) (by kernel_rfl) (fun _ _ _ h => h) (Or.inr ⟨by rfl, rfl⟩) hS0 ?rrb25
          (try simp only [Act.put, List.setIfInBounds_toArray, List.set_cons_zero, List.set_cons_succ])
          refine wpAnyH_take (i := 26) (oi := ⟨some 45, Op.nilCheck (Operand.tmp 44), 0, _, _, some (13, false)⟩) (v := undef) rfl (by kernel_rfl) (by kernel_rfl) (by kernel_rfl) (fun _ _ _ h => h) (Or.inr ⟨by rfl, rfl⟩) hS0 ?rrb26
          (try simp only [Act.put, List.setIfInBounds_toArray, List.set_cons_zero, List.set_cons_succ])
          refine wpAnyH_take (i := 27) (oi := ⟨some 46, Op.fieldAddr 29 (Operand.tmp 45) 0, 0, _, _, some (13, false)⟩) (v := undef) rfl (by kernel_rfl) (by kernel_rfl) (by kernel_rfl) (fun _ _ _ h => h) (Or.inr ⟨by rfl, rfl⟩) hS0 ?rrb27
          (try simp only [Act.put, List.setIfInBounds_toArray, List.set_cons_zero, List.set_cons_succ])
          refine wpAnyH_take (i := 28) (oi := ⟨some 47, Op.load 27 (Operand.tmp 46), 27, _, _, some (13, false)⟩) (v := undef) rfl (by kernel_rfl) (by kernel_rfl) (by kernel_rfl) (fun _ _ _ h => h) (Or.inr ⟨by rfl, rfl⟩) hS0 ?rrb28
          (try simp only [Act.put, List.setIfInBounds_toArray, List.set_cons_zero, List.set_cons_succ])
          refine wpAnyH_take (i := 29) (oi := ⟨some 48, Op.move (Operand.tmp 8), 3, _, _, some (13, false)⟩) (v := undef) rfl (by kernel_rfl) (by kernel_rfl) (by kernel_rfl) (fun _ _ _ h => h) (Or.inr ⟨by rfl, rfl⟩) hS0 ?rrb29
          (try simp only [Act.put, List.setIfInBounds_toArray, List.set_cons_zero, List.set_cons_succ])
          refine wpAnyH_take (i := 30) (oi := ⟨some 49, Op.indexAddr 27 (Operand.tmp 47) (Operand.tmp 48), 0, _, _, some (13, false)⟩) (v := undef) rfl (by kernel_rfl) (by kernel_rfl) (by kernel_rfl) (fun _ _ _ h => h) (Or.inr ⟨by rfl, rfl⟩) hS0 ?rrb30
          (try simp only [Act.put, List.setIfInBounds_toArray, List.set_cons_zero, List.set_cons_succ])
          refine wpAnyH_take (i := 31) (oi := ⟨some 50, Op.fieldAddr 57 (Operand.tmp 49) 1, 0, _, _, some (13, false)⟩) (v := undef) rfl (by kernel_rfl) (by kernel_rfl) (by kernel_rfl) (fun _ _ _ h => h) (Or.inr ⟨by rfl, rfl⟩) hS0 ?rrb31
          (try simp only [Act.put, List.setIfInBounds_toArray, List.set_cons_zero, List.set_cons_succ])
          refine wpAnyH_take (i := 32) (oi := ⟨some 51, Op.load 32 (Operand.tmp 50), 32, _, _, some (13, false)⟩) (v := undef) rfl (by kernel_rfl) (by kernel_rfl) (by kernel_rfl) (fun _ _ _ h => h) (Or.inr ⟨by rfl, rfl⟩) hS0 ?rrb32
          (try simp only [Act.put, List.setIfInBounds_toArray, List.set_cons_zero, List.set_cons_succ])
          refine wpAnyH_take (i := 33) (oi := ⟨some 52, Op.call { callee := Callee.value (Operand.func 25), args := #[Operand.tmp 43, Operand.tmp 51], argTypes := #[32, 32] }, 3, _, _, some (13, false)⟩) (v := undef) rfl (by kernel_rfl) (by kernel_rfl) (by kernel_rfl) (fun _ _ _ h => h) (Or.inr ⟨by rfl, rfl⟩) hS0 ?rrb33
          (try simp only [Act.put, List.setIfInBounds_toArray, List.set_cons_zero, List.set_cons_succ])
          refine wpAnyH_take (i := 34) (oi := ⟨some 53, Op.binOp BinOp.lss 3 (Operand.tmp 42) (Operand.tmp 52) 3, 4, _, _, some (13, false)⟩) (v := undef) rfl (by kernel_rfl) (by kernel_rfl) (by kernel_rfl) (fun _ _ _ h => h) (Or.inr ⟨by rfl, rfl⟩) hS0 ?rrb34
          (try simp only [Act.put, List.setIfInBounds_toArray, List.set_cons_zero, List.set_cons_succ])
          refine wpAnyH_take (i := 35) (oi := ⟨some 54, Op.pick (Operand.tmp 32) (Operand.const (Value.bool true)) (Operand.tmp 53), 4, _, _, some (10, true)⟩) (v := ?vrb35) rfl (by kernel_rfl) (by kernel_rfl) (by kernel_rfl) (fun _ _ _ h => h) (Or.inl ⟨by rfl, ?hrb35⟩) hS0 ?rrb35
          case hrb35 => (intro wz hSw; go_simp <;> with_reducible rfl)
          (try simp only [Act.put, List.setIfInBounds_toArray, List.set_cons_zero, List.set_cons_succ])
          refine wpAnyH_take (i := 36) (oi := ⟨some 55, Op.pick (Operand.tmp 29) (Operand.tmp 54) (Operand.const (Value.bool false)), 4, _, _, none⟩) (v := ?vrb36) rfl (by kernel_rfl) (by kernel_rfl) (by kernel_rfl) (fun _ _ _ h => h) (Or.inl ⟨by rfl, ?hrb36⟩) hS0 ?rrb36
          case hrb36 => (intro wz hSw; go_simp <;> with_reducible rfl)
          (try simp only [Act.put, List.setIfInBounds_toArray, List.set_cons_zero, List.set_cons_succ])
          refine wpAnyH_done (by kernel_rfl) ?_ _
          refine NoPanic.normal ?_
          have HV := Lib.hid hS0
          generalize hv9 : wr.drew = V2 at HV ⊢
          clear hv9
          have HR2 := Lib.hid (HR.out.step HV.out)
          go_wp2
          go_roundg (S.length - (k + 1))
          · exact ⟨k + 1, k, hk1, rfl, by go_num, rfl, HL2, HR2⟩
          · omega
        · have hj0 : decide ((j : Int) < 0) = false := by simp
          have hjl : (j : Int) < S.length := by omega
          have hjp : (0 : Int) ≤ (j : Int) := by omega
          have hjl' : j < S.length := by omega
          have HJ : Hid (∀ wz, Below wr.heap.size wr wz → wz.cell? ⟨b, j * 3, none⟩ = some (.int .i64 (g S j).id) ∧ wz.cell? ⟨b, j * 3 + 1, none⟩ = some (.int .i64 (g S j).x) ∧ wz.cell? ⟨b, j * 3 + 2, none⟩ = some (.int .i64 (g S j).y)) := Lib.hid (fun wz hz => by
            obtain ⟨_, a1, a2, a3, _⟩ := (HR.out.step hz).cells hjl'
            exact ⟨a1, a2, a3⟩)
          have hok := HG.out.ok _ (g_mem hkl)
          have hoj := HG.out.ok _ (g_mem hjl')
          obtain ⟨dk, hdk⟩ : ∃ dk, dist px py (g S k) = dk := ⟨_, rfl⟩
          obtain ⟨dj, hdj⟩ : ∃ dj, dist px py (g S j) = dj := ⟨_, rfl⟩
          have HN1 : Hid (∀ V', Calls Try.prog 25 #[pv px py, pv (g S k).x (g S k).y] V' fun e w' => e = .returned (.int .i64 dk) ∧ Below V'.heap.size V' w') := Lib.hid (fun V' => by
            rw [← hdk]
            exact rsquare_any px py (g S k).x (g S k).y V' f1 f2 (by have := hok.2.1; unfold Fits; omega) (by have := hok.2.2; unfold Fits; omega))
          have HN2 : Hid (∀ V', Calls Try.prog 25 #[pv px py, pv (g S j).x (g S j).y] V' fun e w' => e = .returned (.int .i64 dj) ∧ Below V'.heap.size V' w') := Lib.hid (fun V' => by
            rw [← hdj]
            exact rsquare_any px py (g S j).x (g S j).y V' f1 f2 (by have := hoj.2.1; unfold Fits; omega) (by have := hoj.2.2; unfold Fits; omega))
          by_cases hd : dk < dj
          · have HL2 := Lib.hid (bst_new HL.out hn (by rw [hdk, hdj]; exact hd))
            have hdd : decide (dk < dj) = true := by simpa using hd
            clear HL hn hd hdk hdj hok hoj h2 h3 h4
            generalize (g S k).x = tx at *
            generalize (g S k).y = ty at *
            generalize (g S k).id = ti at *
            generalize (g S j).x = jx at *
            generalize (g S j).y = jy at *
            generalize (g S j).id = ji at *
            go_wp2
            have hS0 : Below wr.heap.size wr wr.drew := (Below.refl _ _).drew
            refine wp_region_noPanic ?_
            refine wp_region_held_drew (S := fun w' => Below wr.heap.size wr w') (by kernel_rfl) hS0 (fun _ => ?_)
            refine wpAnyH_take (i := 0) (oi := ⟨some 19, Op.move (Operand.tmp 0), 26, _, _, none⟩) (v := ?vrc0) rfl (by kernel_rfl) (by kernel_rfl) (by kernel_rfl) (fun _ _ _ h => h) (Or.inl ⟨by rfl, ?hrc0⟩) hS0 ?rrc0
            case hrc0 => (intro wz hSw; go_simp <;> with_reducible rfl)
            (try simp only [Act.put, List.setIfInBounds_toArray, List.set_cons_zero, List.set_cons_succ])
            refine wpAnyH_take (i := 1) (oi := ⟨some 20, Op.nilCheck (Operand.tmp 19), 0, _, _, none⟩) (v := ?vrc1) rfl (by kernel_rfl) (by kernel_rfl) (by kernel_rfl) (fun _ _ _ h => h) (Or.inl ⟨by rfl, ?hrc1⟩) hS0 ?rrc1
            case hrc1 => (intro wz hSw; go_simp <;> with_reducible rfl)
            (try simp only [Act.put, List.setIfInBounds_toArray, List.set_cons_zero, List.set_cons_succ])
            refine wpAnyH_take (i := 2) (oi := ⟨some 21, Op.fieldAddr 29 (Operand.tmp 20) 0, 0, _, _, none⟩) (v := ?vrc2) rfl (by kernel_rfl) (by kernel_rfl) (by kernel_rfl) (fun _ _ _ h => h) (Or.inl ⟨by rfl, ?hrc2⟩) hS0 ?rrc2
            case hrc2 => (intro wz hSw; go_simp <;> with_reducible rfl)
            (try simp only [Act.put, List.setIfInBounds_toArray, List.set_cons_zero, List.set_cons_succ])
            refine wpAnyH_take (i := 3) (oi := ⟨some 22, Op.load 27 (Operand.tmp 21), 27, _, _, none⟩) (v := ?vrc3) rfl (by kernel_rfl) (by kernel_rfl) (by kernel_rfl) (fun _ _ _ h => h) (Or.inl ⟨by rfl, ?hrc3⟩) hS0 ?rrc3
            case hrc3 => (intro wz hSw; obtain ⟨x0, q1, q2, q3, c0, c1⟩ := HC.out wz hSw; obtain ⟨p1, p2, p3⟩ := HJ.out wz hSw; go_simp <;> with_reducible rfl)
            (try simp only [Act.put, List.setIfInBounds_toArray, List.set_cons_zero, List.set_cons_succ])
            refine wpAnyH_take (i := 4) (oi := ⟨some 23, Op.move (Operand.tmp 9), 3, _, _, none⟩) (v := ?vrc4) rfl (by kernel_rfl) (by kernel_rfl) (by kernel_rfl) (fun _ _ _ h => h) (Or.inl ⟨by rfl, ?hrc4⟩) hS0 ?rrc4
            case hrc4 => (intro wz hSw; go_simp <;> with_reducible rfl)
            (try simp only [Act.put, List.setIfInBounds_toArray, List.set_cons_zero, List.set_cons_succ])
            refine wpAnyH_take (i := 5) (oi := ⟨some 24, Op.indexAddr 27 (Operand.tmp 22) (Operand.tmp 23), 0, _, _, none⟩) (v := ?vrc5) rfl (by kernel_rfl) (by kernel_rfl) (by kernel_rfl) (fun _ _ _ h => h) (Or.inl ⟨by rfl, ?hrc5⟩) hS0 ?rrc5
            case hrc5 => (intro wz hSw; go_simp <;> with_reducible rfl)
            (try simp only [Act.put, List.setIfInBounds_toArray, List.set_cons_zero, List.set_cons_succ])
            refine wpAnyH_take (i := 6) (oi := ⟨some 25, Op.fieldAddr 57 (Operand.tmp 24) 0, 0, _, _, none⟩) (v := ?vrc6) rfl (by kernel_rfl) (by kernel_rfl) (by kernel_rfl) (fun _ _ _ h => h) (Or.inl ⟨by rfl, ?hrc6⟩) hS0 ?rrc6
            case hrc6 => (intro wz hSw; go_simp <;> with_reducible rfl)
            (try simp only [Act.put, List.setIfInBounds_toArray, List.set_cons_zero, List.set_cons_succ])
            refine wpAnyH_take (i := 7) (oi := ⟨some 26, Op.load 3 (Operand.tmp 25), 3, _, _, none⟩) (v := ?vrc7) rfl (by kernel_rfl) (by kernel_rfl) (by kernel_rfl) (fun _ _ _ h => h) (Or.inl ⟨by rfl, ?hrc7⟩) hS0 ?rrc7
            case hrc7 => (intro wz hSw; obtain ⟨x0, q1, q2, q3, c0, c1⟩ := HC.out wz hSw; obtain ⟨p1, p2, p3⟩ := HJ.out wz hSw; go_simp <;> with_reducible rfl)
            (try simp only [Act.put, List.setIfInBounds_toArray, List.set_cons_zero, List.set_cons_succ])
            refine wpAnyH_take (i := 8) (oi := ⟨some 27, Op.move (Operand.tmp 2), 3, _, _, none⟩) (v := ?vrc8) rfl (by kernel_rfl) (by kernel_rfl) (by kernel_rfl) (fun _ _ _ h => h) (Or.inl ⟨by rfl, ?hrc8⟩) hS0 ?rrc8
            case hrc8 => (intro wz hSw; go_simp <;> with_reducible rfl)
            (try simp only [Act.put, List.setIfInBounds_toArray, List.set_cons_zero, List.set_cons_succ])
            refine wpAnyH_take (i := 9) (oi := ⟨some 28, Op.binOp BinOp.neq 3 (Operand.tmp 26) (Operand.tmp 27) 3, 4, _, _, none⟩) (v := ?vrc9) rfl (by kernel_rfl) (by kernel_rfl) (by kernel_rfl) (fun _ _ _ h => h) (Or.inl ⟨by rfl, ?hrc9⟩) hS0 ?rrc9
            case hrc9 => (intro wz hSw; go_simp <;> with_reducible rfl)
            (try simp only [Act.put, List.setIfInBounds_toArray, List.set_cons_zero, List.set_cons_succ])
            refine wpAnyH_take (i := 10) (oi := ⟨some 29, Op.move (Operand.tmp 28), 4, _, _, none⟩) (v := ?vrc10) rfl (by kernel_rfl) (by kernel_rfl) (by kernel_rfl) (fun _ _ _ h => h) (Or.inl ⟨by rfl, ?hrc10⟩) hS0 ?rrc10
            case hrc10 => (intro wz hSw; go_simp <;> with_reducible rfl)
            (try simp only [Act.put, List.setIfInBounds_toArray, List.set_cons_zero, List.set_cons_succ])
            refine wpAnyH_take (i := 11) (oi := ⟨some 30, Op.move (Operand.tmp 8), 3, _, _, some (10, true)⟩) (v := ?vrc11) rfl (by kernel_rfl) (by kernel_rfl) (by kernel_rfl) (fun _ _ _ h => h) (Or.inl ⟨by rfl, ?hrc11⟩) hS0 ?rrc11
            case hrc11 => (intro wz hSw; go_simp <;> with_reducible rfl)
            (try simp only [Act.put, List.setIfInBounds_toArray, List.set_cons_zero, List.set_cons_succ])
            refine wpAnyH_take (i := 12) (oi := ⟨some 31, Op.binOp BinOp.lss 3 (Operand.tmp 30) (Operand.const (Value.int IntKind.i64 0)) 3, 4, _, _, some (10, true)⟩) (v := ?vrc12) rfl (by kernel_rfl) (by kernel_rfl) (by kernel_rfl) (fun _ _ _ h => h) (Or.inl ⟨by rfl, ?hrc12⟩) hS0 ?rrc12
            case hrc12 => (intro wz hSw; go_simp <;> with_reducible rfl)
            (try simp only [Act.put, List.setIfInBounds_toArray, List.set_cons_zero, List.set_cons_succ])
            refine wpAnyH_take (i := 13) (oi := ⟨some 32, Op.move (Operand.tmp 31), 4, _, _, some (10, true)⟩) (v := ?vrc13) rfl (by kernel_rfl) (by kernel_rfl) (by kernel_rfl) (fun _ _ _ h => h) (Or.inl ⟨by rfl, ?hrc13⟩) hS0 ?rrc13
            case hrc13 => (intro wz hSw; go_simp <;> with_reducible rfl)
            (try simp only [Act.put, List.setIfInBounds_toArray, List.set_cons_zero, List.set_cons_succ])
            refine wpAnyH_take (i := 14) (oi := ⟨some 33, Op.load 32 (Operand.tmp 4), 32, _, _, some (13, false)⟩) (v := ?vrc14) rfl (by kernel_rfl) (by kernel_rfl) (by kernel_rfl) (fun _ _ _ h => h) (Or.inl ⟨by rfl, ?hrc14⟩) hS0 ?rrc14
            case hrc14 => (intro wz hSw; obtain ⟨x0, q1, q2, q3, c0, c1⟩ := HC.out wz hSw; obtain ⟨p1, p2, p3⟩ := HJ.out wz hSw; go_simp <;> with_reducible rfl)
            (try simp only [Act.put, List.setIfInBounds_toArray, List.set_cons_zero, List.set_cons_succ])
            refine wpAnyH_take (i := 15) (oi := ⟨some 34, Op.move (Operand.tmp 0), 26, _, _, some (13, false)⟩) (v := ?vrc15) rfl (by kernel_rfl) (by kernel_rfl) (by kernel_rfl) (fun _ _ _ h => h) (Or.inl ⟨by rfl, ?hrc15⟩) hS0 ?rrc15
            case hrc15 => (intro wz hSw; go_simp <;> with_reducible rfl)
            (try simp only [Act.put, List.setIfInBounds_toArray, List.set_cons_zero, List.set_cons_succ])
            refine wpAnyH_take (i := 16) (oi := ⟨some 35, Op.nilCheck (Operand.tmp 34), 0, _, _, some (13, false)⟩) (v := ?vrc16) rfl (by kernel_rfl) (by kernel_rfl) (by kernel_rfl) (fun _ _ _ h => h) (Or.inl ⟨by rfl, ?hrc16⟩) hS0 ?rrc16
            case hrc16 => (intro wz hSw; go_simp <;> with_reducible rfl)
            (try simp only [Act.put, List.setIfInBounds_toArray, List.set_cons_zero, List.set_cons_succ])
            refine wpAnyH_take (i := 17) (oi := ⟨some 36, Op.fieldAddr 29 (Operand.tmp 35) 0, 0, _, _, some (13, false)⟩) (v := ?vrc17) rfl (by kernel_rfl) (by kernel_rfl) (by kernel_rfl) (fun _ _ _ h => h) (Or.inl ⟨by rfl, ?hrc17⟩) hS0 ?rrc17
            case hrc17 => (intro wz hSw; go_simp <;> with_reducible rfl)
            (try simp only [Act.put, List.setIfInBounds_toArray, List.set_cons_zero, List.set_cons_succ])
            refine wpAnyH_take (i := 18) (oi := ⟨some 37, Op.load 27 (Operand.tmp 36), 27, _, _, some (13, false)⟩) (v := ?vrc18) rfl (by kernel_rfl) (by kernel_rfl) (by kernel_rfl) (fun _ _ _ h => h) (Or.inl ⟨by rfl, ?hrc18⟩) hS0 ?rrc18
            case hrc18 => (intro wz hSw; obtain ⟨x0, q1, q2, q3, c0, c1⟩ := HC.out wz hSw; obtain ⟨p1, p2, p3⟩ := HJ.out wz hSw; go_simp <;> with_reducible rfl)
            (try simp only [Act.put, List.setIfInBounds_toArray, List.set_cons_zero, List.set_cons_succ])
            refine wpAnyH_take (i := 19) (oi := ⟨some 38, Op.move (Operand.tmp 9), 3, _, _, some (13, false)⟩) (v := ?vrc19) rfl (by kernel_rfl) (by kernel_rfl) (by kernel_rfl) (fun _ _ _ h => h) (Or.inl ⟨by rfl, ?hrc19⟩) hS0 ?rrc19
            case hrc19 => (intro wz hSw; go_simp <;> with_reducible rfl)
            (try simp only [Act.put, List.setIfInBounds_toArray, List.set_cons_zero, List.set_cons_succ])
            refine wpAnyH_take (i := 20) (oi := ⟨some 39, Op.indexAddr 27 (Operand.tmp 37) (Operand.tmp 38), 0, _, _, some (13, false)⟩) (v := ?vrc20) rfl (by kernel_rfl) (by kernel_rfl) (by kernel_rfl) (fun _ _ _ h => h) (Or.inl ⟨by rfl, ?hrc20⟩) hS0 ?rrc20
            case hrc20 => (intro wz hSw; go_simp <;> with_reducible rfl)
            (try simp only [Act.put, List.setIfInBounds_toArray, List.set_cons_zero, List.set_cons_succ])
            refine wpAnyH_take (i := 21) (oi := ⟨some 40, Op.fieldAddr 57 (Operand.tmp 39) 1, 0, _, _, some (13, false)⟩) (v := ?vrc21) rfl (by kernel_rfl) (by kernel_rfl) (by kernel_rfl) (fun _ _ _ h => h) (Or.inl ⟨by rfl, ?hrc21⟩) hS0 ?rrc21
            case hrc21 => (intro wz hSw; go_simp <;> with_reducible rfl)
            (try simp only [Act.put, List.setIfInBounds_toArray, List.set_cons_zero, List.set_cons_succ])
            refine wpAnyH_take (i := 22) (oi := ⟨some 41, Op.load 32 (Operand.tmp 40), 32, _, _, some (13, false)⟩) (v := ?vrc22) rfl (by kernel_rfl) (by kernel_rfl) (by kernel_rfl) (fun _ _ _ h => h) (Or.inl ⟨by rfl, ?hrc22⟩) hS0 ?rrc22
            case hrc22 => (intro wz hSw; obtain ⟨x0, q1, q2, q3, c0, c1⟩ := HC.out wz hSw; obtain ⟨p1, p2, p3⟩ := HJ.out wz hSw; go_simp <;> with_reducible rfl)
            (try simp only [Act.put, List.setIfInBounds_toArray, List.set_cons_zero, List.set_cons_succ])
            refine wpAnyH_take (i := 24) (oi := ⟨some 43, Op.load 32 (Operand.tmp 4), 32, _, _, some (13, false)⟩) (v := ?vrc24) rfl (by kernel_rfl) (by kernel_rfl) (by kernel_rfl) (fun _ _ _ h => h) (Or.inl ⟨by rfl, ?hrc24⟩) hS0 ?rrc24
            case hrc24 => (intro wz hSw; obtain ⟨x0, q1, q2, q3, c0, c1⟩ := HC.out wz hSw; obtain ⟨p1, p2, p3⟩ := HJ.out wz hSw; go_simp <;> with_reducible rfl)
            (try simp only [Act.put, List.setIfInBounds_toArray, List.set_cons_zero, List.set_cons_succ])
            refine wpAnyH_take (i := 25) (oi := ⟨some 44, Op.move (Operand.tmp 0), 26, _, _, some (13, false)⟩) (v := ?vrc25) rfl (by kernel_rfl) (by kernel_rfl) (by kernel_rfl) (fun _ _ _ h => h) (Or.inl ⟨by rfl, ?hrc25⟩) hS0 ?rrc25
            case hrc25 => (intro wz hSw; go_simp <;> with_reducible rfl)
            (try simp only [Act.put, List.setIfInBounds_toArray, List.set_cons_zero, List.set_cons_succ])
            refine wpAnyH_take (i := 26) (oi := ⟨some 45, Op.nilCheck (Operand.tmp 44), 0, _, _, some (13, false)⟩) (v := ?vrc26) rfl (by kernel_rfl) (by kernel_rfl) (by kernel_rfl) (fun _ _ _ h => h) (Or.inl ⟨by rfl, ?hrc26⟩) hS0 ?rrc26
            case hrc26 => (intro wz hSw; go_simp <;> with_reducible rfl)
            (try simp only [Act.put, List.setIfInBounds_toArray, List.set_cons_zero, List.set_cons_succ])
            refine wpAnyH_take (i := 27) (oi := ⟨some 46, Op.fieldAddr 29 (Operand.tmp 45) 0, 0, _, _, some (13, false)⟩) (v := ?vrc27) rfl (by kernel_rfl) (by kernel_rfl) (by kernel_rfl) (fun _ _ _ h => h) (Or.inl ⟨by rfl, ?hrc27⟩) hS0 ?rrc27
            case hrc27 => (intro wz hSw; go_simp <;> with_reducible rfl)
            (try simp only [Act.put, List.setIfInBounds_toArray, List.set_cons_zero, List.set_cons_succ])
            refine wpAnyH_take (i := 28) (oi := ⟨some 47, Op.load 27 (Operand.tmp 46), 27, _, _, some (13, false)⟩) (v := ?vrc28) rfl (by kernel_rfl) (by kernel_rfl) (by kernel_rfl) (fun _ _ _ h => h) (Or.inl ⟨by rfl, ?hrc28⟩) hS0 ?rrc28
            case hrc28 => (intro wz hSw; obtain ⟨x0, q1, q2, q3, c0, c1⟩ := HC.out wz hSw; obtain ⟨p1, p2, p3⟩ := HJ.out wz hSw; go_simp <;> with_reducible rfl)
            (try simp only [Act.put, List.setIfInBounds_toArray, List.set_cons_zero, List.set_cons_succ])
            refine wpAnyH_take (i := 29) (oi := ⟨some 48, Op.move (Operand.tmp 8), 3, _, _, some (13, false)⟩) (v := ?vrc29) rfl (by kernel_rfl) (by kernel_rfl) (by kernel_rfl) (fun _ _ _ h => h) (Or.inl ⟨by rfl, ?hrc29⟩) hS0 ?rrc29
            case hrc29 => (intro wz hSw; go_simp <;> with_reducible rfl)
            (try simp only [Act.put, List.setIfInBounds_toArray, List.set_cons_zero, List.set_cons_succ])
            refine wpAnyH_take (i := 30) (oi := ⟨some 49, Op.indexAddr 27 (Operand.tmp 47) (Operand.tmp 48), 0, _, _, some (13, false)⟩) (v := ?vrc30) rfl (by kernel_rfl) (by kernel_rfl) (by kernel_rfl) (fun _ _ _ h => h) (Or.inl ⟨by rfl, ?hrc30⟩) hS0 ?rrc30
            case hrc30 => (intro wz hSw; go_simp <;> with_reducible rfl)
            (try simp only [Act.put, List.setIfInBounds_toArray, List.set_cons_zero, List.set_cons_succ])
            refine wpAnyH_take (i := 31) (oi := ⟨some 50, Op.fieldAddr 57 (Operand.tmp 49) 1, 0, _, _, some (13, false)⟩) (v := ?vrc31) rfl (by kernel_rfl) (by kernel_rfl) (by kernel_rfl) (fun _ _ _ h => h) (Or.inl ⟨by rfl, ?hrc31⟩) hS0 ?rrc31
            case hrc31 => (intro wz hSw; go_simp <;> with_reducible rfl)
            (try simp only [Act.put, List.setIfInBounds_toArray, List.set_cons_zero, List.set_cons_succ])
            refine wpAnyH_take (i := 32) (oi := ⟨some 51, Op.load 32 (Operand.tmp 50), 32, _, _, some (13, false)⟩) (v := ?vrc32) rfl (by kernel_rfl) (by kernel_rfl) (by kernel_rfl) (fun _ _ _ h => h) (Or.inl ⟨by rfl, ?hrc32⟩) hS0 ?rrc32
            case hrc32 => (intro wz hSw; obtain ⟨x0, q1, q2, q3, c0, c1⟩ := HC.out wz hSw; obtain ⟨p1, p2, p3⟩ := HJ.out wz hSw; go_simp <;> with_reducible rfl)
            (try simp only [Act.put, List.setIfInBounds_toArray, List.set_cons_zero, List.set_cons_succ])
            refine wpAnyH_ready (rs := [23]) (by kernel_rfl) (by simp) ?_
            refine AllReadyH.cons (o := ⟨some 42, Op.call { callee := Callee.value (Operand.func 25), args := #[Operand.tmp 33, Operand.tmp 41], argTypes := #[32, 32] }, 3, _, _, some (13, false)⟩) rfl (fun K hK => ?_) AllReadyH.nil
            go_simp
            (with_reducible refine (HN1.out _).mono ?_); rintro e v1 ⟨rfl, hB1⟩; have hS1 := hS0.trans (hB1.mono hS0.size)
            refine hK.out _ _ hS1 (fun _ => ?_)
            clear hK K
            (try simp only [Act.put, List.setIfInBounds_toArray, List.set_cons_zero, List.set_cons_succ])
            refine wpAnyH_ready (rs := [33]) (by kernel_rfl) (by simp) ?_
            refine AllReadyH.cons (o := ⟨some 52, Op.call { callee := Callee.value (Operand.func 25), args := #[Operand.tmp 43, Operand.tmp 51], argTypes := #[32, 32] }, 3, _, _, some (13, false)⟩) rfl (fun K hK => ?_) AllReadyH.nil
            go_simp
            (with_reducible refine (HN2.out _).mono ?_); rintro e v2 ⟨rfl, hB2⟩; have hS2 := hS1.trans (hB2.mono hS1.size)
            refine hK.out _ _ hS2 (fun _ => ?_)
            clear hK K
            (try simp only [Act.put, List.setIfInBounds_toArray, List.set_cons_zero, List.set_cons_succ])
            refine wpAnyH_take (i := 34) (oi := ⟨some 53, Op.binOp BinOp.lss 3 (Operand.tmp 42) (Operand.tmp 52) 3, 4, _, _, some (13, false)⟩) (v := ?vrc34) rfl (by kernel_rfl) (by kernel_rfl) (by kernel_rfl) (fun _ _ _ h => h) (Or.inl ⟨by rfl, ?hrc34⟩) hS2 ?rrc34
            case hrc34 => (intro wz hSw; go_simp <;> with_reducible rfl)
            (try simp only [Act.put, List.setIfInBounds_toArray, List.set_cons_zero, List.set_cons_succ])
            refine wpAnyH_take (i := 35) (oi := ⟨some 54, Op.pick (Operand.tmp 32) (Operand.const (Value.bool true)) (Operand.tmp 53), 4, _, _, some (10, true)⟩) (v := ?vrc35) rfl (by kernel_rfl) (by kernel_rfl) (by kernel_rfl) (fun _ _ _ h => h) (Or.inl ⟨by rfl, ?hrc35⟩) hS2 ?rrc35
            case hrc35 => (intro wz hSw; go_simp <;> with_reducible rfl)
            (try simp only [Act.put, List.setIfInBounds_toArray, List.set_cons_zero, List.set_cons_succ])
            refine wpAnyH_take (i := 36) (oi := ⟨some 55, Op.pick (Operand.tmp 29) (Operand.tmp 54) (Operand.const (Value.bool false)), 4, _, _, none⟩) (v := ?vrc36) rfl (by kernel_rfl) (by kernel_rfl) (by kernel_rfl) (fun _ _ _ h => h) (Or.inl ⟨by rfl, ?hrc36⟩) hS2 ?rrc36
            case hrc36 => (intro wz hSw; go_simp <;> with_reducible rfl)
            (try simp only [Act.put, List.setIfInBounds_toArray, List.set_cons_zero, List.set_cons_succ])
            refine wpAnyH_done (by kernel_rfl) ?_ _
            refine NoPanic.normal ?_
            have HV := Lib.hid hS2
            generalize hv9 : v2 = V2 at HV ⊢
            clear hv9
            have HR2 := Lib.hid (HR.out.step HV.out)
            go_wp2
            go_roundg (S.length - (k + 1))
            · exact ⟨k + 1, k, hk1, rfl, by go_num, rfl, HL2, HR2⟩
            · omega
          · have HL2 := Lib.hid (bst_old HL.out (by rw [hdk, hdj]; exact hd))
            have hdd : decide (dk < dj) = false := by simpa using hd
            clear HL hn hd hdk hdj hok hoj h2 h3 h4
            generalize (g S k).x = tx at *
            generalize (g S k).y = ty at *
            generalize (g S k).id = ti at *
            generalize (g S j).x = jx at *
            generalize (g S j).y = jy at *
            generalize (g S j).id = ji at *
            go_wp2
            have hS0 : Below wr.heap.size wr wr.drew := (Below.refl _ _).drew
            refine wp_region_noPanic ?_
            refine wp_region_held_drew (S := fun w' => Below wr.heap.size wr w') (by kernel_rfl) hS0 (fun _ => ?_)
            refine wpAnyH_take (i := 0) (oi := ⟨some 19, Op.move (Operand.tmp 0), 26, _, _, none⟩) (v := ?vrd0) rfl (by kernel_rfl) (by kernel_rfl) (by kernel_rfl) (fun _ _ _ h => h) (Or.inl ⟨by rfl, ?hrd0⟩) hS0 ?rrd0
            case hrd0 => (intro wz hSw; go_simp <;> with_reducible rfl)
            (try simp only [Act.put, List.setIfInBounds_toArray, List.set_cons_zero, List.set_cons_succ])
            refine wpAnyH_take (i := 1) (oi := ⟨some 20, Op.nilCheck (Operand.tmp 19), 0, _, _, none⟩) (v := ?vrd1) rfl (by kernel_rfl) (by kernel_rfl) (by kernel_rfl) (fun _ _ _ h => h) (Or.inl ⟨by rfl, ?hrd1⟩) hS0 ?rrd1
            case hrd1 => (intro wz hSw; go_simp <;> with_reducible rfl)
            (try simp only [Act.put, List.setIfInBounds_toArray, List.set_cons_zero, List.set_cons_succ])
            refine wpAnyH_take (i := 2) (oi := ⟨some 21, Op.fieldAddr 29 (Operand.tmp 20) 0, 0, _, _, none⟩) (v := ?vrd2) rfl (by kernel_rfl) (by kernel_rfl) (by kernel_rfl) (fun _ _ _ h => h) (Or.inl ⟨by rfl, ?hrd2⟩) hS0 ?rrd2
            case hrd2 => (intro wz hSw; go_simp <;> with_reducible rfl)
            (try simp only [Act.put, List.setIfInBounds_toArray, List.set_cons_zero, List.set_cons_succ])
            refine wpAnyH_take (i := 3) (oi := ⟨some 22, Op.load 27 (Operand.tmp 21), 27, _, _, none⟩) (v := ?vrd3) rfl (by kernel_rfl) (by kernel_rfl) (by kernel_rfl) (fun _ _ _ h => h) (Or.inl ⟨by rfl, ?hrd3⟩) hS0 ?rrd3
            case hrd3 => (intro wz hSw; obtain ⟨x0, q1, q2, q3, c0, c1⟩ := HC.out wz hSw; obtain ⟨p1, p2, p3⟩ := HJ.out wz hSw; go_simp <;> with_reducible rfl)
            (try simp only [Act.put, List.setIfInBounds_toArray, List.set_cons_zero, List.set_cons_succ])
            refine wpAnyH_take (i := 4) (oi := ⟨some 23, Op.move (Operand.tmp 9), 3, _, _, none⟩) (v := ?vrd4) rfl (by kernel_rfl) (by kernel_rfl) (by kernel_rfl) (fun _ _ _ h => h) (Or.inl ⟨by rfl, ?hrd4⟩) hS0 ?rrd4
            case hrd4 => (intro wz hSw; go_simp <;> with_reducible rfl)
            (try simp only [Act.put, List.setIfInBounds_toArray, List.set_cons_zero, List.set_cons_succ])
            refine wpAnyH_take (i := 5) (oi := ⟨some 24, Op.indexAddr 27 (Operand.tmp 22) (Operand.tmp 23), 0, _, _, none⟩) (v := ?vrd5) rfl (by kernel_rfl) (by kernel_rfl) (by kernel_rfl) (fun _ _ _ h => h) (Or.inl ⟨by rfl, ?hrd5⟩) hS0 ?rrd5
            case hrd5 => (intro wz hSw; go_simp <;> with_reducible rfl)
            (try simp only [Act.put, List.setIfInBounds_toArray, List.set_cons_zero, List.set_cons_succ])
            refine wpAnyH_take (i := 6) (oi := ⟨some 25, Op.fieldAddr 57 (Operand.tmp 24) 0, 0, _, _, none⟩) (v := ?vrd6) rfl (by kernel_rfl) (by kernel_rfl) (by kernel_rfl) (fun _ _ _ h => h) (Or.inl ⟨by rfl, ?hrd6⟩) hS0 ?rrd6
            case hrd6 => (intro wz hSw; go_simp <;> with_reducible rfl)
            (try simp only [Act.put, List.setIfInBounds_toArray, List.set_cons_zero, List.set_cons_succ])
            refine wpAnyH_take (i := 7) (oi := ⟨some 26, Op.load 3 (Operand.tmp 25), 3, _, _, none⟩) (v := ?vrd7) rfl (by kernel_rfl) (by kernel_rfl) (by kernel_rfl) (fun _ _ _ h => h) (Or.inl ⟨by rfl, ?hrd7⟩) hS0 ?rrd7
            case hrd7 => (intro wz hSw; obtain ⟨x0, q1, q2, q3, c0, c1⟩ := HC.out wz hSw; obtain ⟨p1, p2, p3⟩ := HJ.out wz hSw; go_simp <;> with_reducible rfl)
            (try simp only [Act.put, List.setIfInBounds_toArray, List.set_cons_zero, List.set_cons_succ])
            refine wpAnyH_take (i := 8) (oi := ⟨some 27, Op.move (Operand.tmp 2), 3, _, _, none⟩) (v := ?vrd8) rfl (by kernel_rfl) (by kernel_rfl) (by kernel_rfl) (fun _ _ _ h => h) (Or.inl ⟨by rfl, ?hrd8⟩) hS0 ?rrd8
            case hrd8 => (intro wz hSw; go_simp <;> with_reducible rfl)
            (try simp only [Act.put, List.setIfInBounds_toArray, List.set_cons_zero, List.set_cons_succ])
            refine wpAnyH_take (i := 9) (oi := ⟨some 28, Op.binOp BinOp.neq 3 (Operand.tmp 26) (Operand.tmp 27) 3, 4, _, _, none⟩) (v := ?vrd9) rfl (by kernel_rfl) (by kernel_rfl) (by kernel_rfl) (fun _ _ _ h => h) (Or.inl ⟨by rfl, ?hrd9⟩) hS0 ?rrd9
            case hrd9 => (intro wz hSw; go_simp <;> with_reducible rfl)
            (try simp only [Act.put, List.setIfInBounds_toArray, List.set_cons_zero, List.set_cons_succ])
            refine wpAnyH_take (i := 10) (oi := ⟨some 29, Op.move (Operand.tmp 28), 4, _, _, none⟩) (v := ?vrd10) rfl (by kernel_rfl) (by kernel_rfl) (by kernel_rfl) (fun _ _ _ h => h) (Or.inl ⟨by rfl, ?hrd10⟩) hS0 ?rrd10
            case hrd10 => (intro wz hSw; go_simp <;> with_reducible rfl)
            (try simp only [Act.put, List.setIfInBounds_toArray, List.set_cons_zero, List.set_cons_succ])
            refine wpAnyH_take (i := 11) (oi := ⟨some 30, Op.move (Operand.tmp 8), 3, _, _, some (10, true)⟩) (v := ?vrd11) rfl (by kernel_rfl) (by kernel_rfl) (by kernel_rfl) (fun _ _ _ h => h) (Or.inl ⟨by rfl, ?hrd11⟩) hS0 ?rrd11
            case hrd11 => (intro wz hSw; go_simp <;> with_reducible rfl)
            (try simp only [Act.put, List.setIfInBounds_toArray, List.set_cons_zero, List.set_cons_succ])
            refine wpAnyH_take (i := 12) (oi := ⟨some 31, Op.binOp BinOp.lss 3 (Operand.tmp 30) (Operand.const (Value.int IntKind.i64 0)) 3, 4, _, _, some (10, true)⟩) (v := ?vrd12) rfl (by kernel_rfl) (by kernel_rfl) (by kernel_rfl) (fun _ _ _ h => h) (Or.inl ⟨by rfl, ?hrd12⟩) hS0 ?rrd12
            case hrd12 => (intro wz hSw; go_simp <;> with_reducible rfl)
            (try simp only [Act.put, List.setIfInBounds_toArray, List.set_cons_zero, List.set_cons_succ])
            refine wpAnyH_take (i := 13) (oi := ⟨some 32, Op.move (Operand.tmp 31), 4, _, _, some (10, true)⟩) (v := ?vrd13) rfl (by kernel_rfl) (by kernel_rfl) (by kernel_rfl) (fun _ _ _ h => h) (Or.inl ⟨by rfl, ?hrd13⟩) hS0 ?rrd13
            case hrd13 => (intro wz hSw; go_simp <;> with_reducible rfl)
            (try simp only [Act.put, List.setIfInBounds_toArray, List.set_cons_zero, List.set_cons_succ])
            refine wpAnyH_take (i := 14) (oi := ⟨some 33, Op.load 32 (Operand.tmp 4), 32, _, _, some (13, false)⟩) (v := ?vrd14) rfl (by kernel_rfl) (by kernel_rfl) (by kernel_rfl) (fun _ _ _ h => h) (Or.inl ⟨by rfl, ?hrd14⟩) hS0 ?rrd14
            case hrd14 => (intro wz hSw; obtain ⟨x0, q1, q2, q3, c0, c1⟩ := HC.out wz hSw; obtain ⟨p1, p2, p3⟩ := HJ.out wz hSw; go_simp <;> with_reducible rfl)
            (try simp only [Act.put, List.setIfInBounds_toArray, List.set_cons_zero, List.set_cons_succ])
            refine wpAnyH_take (i := 15) (oi := ⟨some 34, Op.move (Operand.tmp 0), 26, _, _, some (13, false)⟩) (v := ?vrd15) rfl (by kernel_rfl) (by kernel_rfl) (by kernel_rfl) (fun _ _ _ h => h) (Or.inl ⟨by rfl, ?hrd15⟩) hS0 ?rrd15
            case hrd15 => (intro wz hSw; go_simp <;> with_reducible rfl)
            (try simp only [Act.put, List.setIfInBounds_toArray, List.set_cons_zero, List.set_cons_succ])
            refine wpAnyH_take (i := 16) (oi := ⟨some 35, Op.nilCheck (Operand.tmp 34), 0, _, _, some (13, false)⟩) (v := ?vrd16) rfl (by kernel_rfl) (by kernel_rfl) (by kernel_rfl) (fun _ _ _ h => h) (Or.inl ⟨by rfl, ?hrd16⟩) hS0 ?rrd16
            case hrd16 => (intro wz hSw; go_simp <;> with_reducible rfl)
            (try simp only [Act.put, List.setIfInBounds_toArray, List.set_cons_zero, List.set_cons_succ])
            refine wpAnyH_take (i := 17) (oi := ⟨some 36, Op.fieldAddr 29 (Operand.tmp 35) 0, 0, _, _, some (13, false)⟩) (v := ?vrd17) rfl (by kernel_rfl) (by kernel_rfl) (by kernel_rfl) (fun _ _ _ h => h) (Or.inl ⟨by rfl, ?hrd17⟩) hS0 ?rrd17
            case hrd17 => (intro wz hSw; go_simp <;> with_reducible rfl)
            (try simp only [Act.put, List.setIfInBounds_toArray, List.set_cons_zero, List.set_cons_succ])
            refine wpAnyH_take (i := 18) (oi := ⟨some 37, Op.load 27 (Operand.tmp 36), 27, _, _, some (13, false)⟩) (v := ?vrd18) rfl (by kernel_rfl) (by kernel_rfl) (by kernel_rfl) (fun _ _ _ h => h) (Or.inl ⟨by rfl, ?hrd18⟩) hS0 ?rrd18
            case hrd18 => (intro wz hSw; obtain ⟨x0, q1, q2, q3, c0, c1⟩ := HC.out wz hSw; obtain ⟨p1, p2, p3⟩ := HJ.out wz hSw; go_simp <;> with_reducible rfl)
            (try simp only [Act.put, List.setIfInBounds_toArray, List.set_cons_zero, List.set_cons_succ])
            refine wpAnyH_take (i := 19) (oi := ⟨some 38, Op.move (Operand.tmp 9), 3, _, _, some (13, false)⟩) (v := ?vrd19) rfl (by kernel_rfl) (by kernel_rfl) (by kernel_rfl) (fun _ _ _ h => h) (Or.inl ⟨by rfl, ?hrd19⟩) hS0 ?rrd19
            case hrd19 => (intro wz hSw; go_simp <;> with_reducible rfl)
            (try simp only [Act.put, List.setIfInBounds_toArray, List.set_cons_zero, List.set_cons_succ])
            refine wpAnyH_take (i := 20) (oi := ⟨some 39, Op.indexAddr 27 (Operand.tmp 37) (Operand.tmp 38), 0, _, _, some (13, false)⟩) (v := ?vrd20) rfl (by kernel_rfl) (by kernel_rfl) (by kernel_rfl) (fun _ _ _ h => h) (Or.inl ⟨by rfl, ?hrd20⟩) hS0 ?rrd20
            case hrd20 => (intro wz hSw; go_simp <;> with_reducible rfl)
            (try simp only [Act.put, List.setIfInBounds_toArray, List.set_cons_zero, List.set_cons_succ])
            refine wpAnyH_take (i := 21) (oi := ⟨some 40, Op.fieldAddr 57 (Operand.tmp 39) 1, 0, _, _, some (13, false)⟩) (v := ?vrd21) rfl (by kernel_rfl) (by kernel_rfl) (by kernel_rfl) (fun _ _ _ h => h) (Or.inl ⟨by rfl, ?hrd21⟩) hS0 ?rrd21
            case hrd21 => (intro wz hSw; go_simp <;> with_reducible rfl)
            (try simp only [Act.put, List.setIfInBounds_toArray, List.set_cons_zero, List.set_cons_succ])
            refine wpAnyH_take (i := 22) (oi := ⟨some 41, Op.load 32 (Operand.tmp 40), 32, _, _, some (13, false)⟩) (v := ?vrd22) rfl (by kernel_rfl) (by kernel_rfl) (by kernel_rfl) (fun _ _ _ h => h) (Or.inl ⟨by rfl, ?hrd22⟩) hS0 ?rrd22
            case hrd22 => (intro wz hSw; obtain ⟨x0, q1, q2, q3, c0, c1⟩ := HC.out wz hSw; obtain ⟨p1, p2, p3⟩ := HJ.out wz hSw; go_simp <;> with_reducible rfl)
            (try simp only [Act.put, List.setIfInBounds_toArray, List.set_cons_zero, List.set_cons_succ])
            refine wpAnyH_take (i := 24) (oi := ⟨some 43, Op.load 32 (Operand.tmp 4), 32, _, _, some (13, false)⟩) (v := ?vrd24) rfl (by kernel_rfl) (by kernel_rfl) (by kernel_rfl) (fun _ _ _ h => h) (Or.inl ⟨by rfl, ?hrd24⟩) hS0 ?rrd24
            case hrd24 => (intro wz hSw; obtain ⟨x0, q1, q2, q3, c0, c1⟩ := HC.out wz hSw; obtain ⟨p1, p2, p3⟩ := HJ.out wz hSw; go_simp <;> with_reducible rfl)
            (try simp only [Act.put, List.setIfInBounds_toArray, List.set_cons_zero, List.set_cons_succ])
            refine wpAnyH_take (i := 25) (oi := ⟨some 44, Op.move (Operand.tmp 0), 26, _, _, some (13, false)⟩) (v := ?vrd25) rfl (by kernel_rfl) (by kernel_rfl) (by kernel_rfl) (fun _ _ _ h => h) (Or.inl ⟨by rfl, ?hrd25⟩) hS0 ?rrd25
            case hrd25 => (intro wz hSw; go_simp <;> with_reducible rfl)
            (try simp only [Act.put, List.setIfInBounds_toArray, List.set_cons_zero, List.set_cons_succ])
            refine wpAnyH_take (i := 26) (oi := ⟨some 45, Op.nilCheck (Operand.tmp 44), 0, _, _, some (13, false)⟩) (v := ?vrd26) rfl (by kernel_rfl) (by kernel_rfl) (by kernel_rfl) (fun _ _ _ h => h) (Or.inl ⟨by rfl, ?hrd26⟩) hS0 ?rrd26
            case hrd26 => (intro wz hSw; go_simp <;> with_reducible rfl)
            (try simp only [Act.put, List.setIfInBounds_toArray, List.set_cons_zero, List.set_cons_succ])
            refine wpAnyH_take (i := 27) (oi := ⟨some 46, Op.fieldAddr 29 (Operand.tmp 45) 0, 0, _, _, some (13, false)⟩) (v := ?vrd27) rfl (by kernel_rfl) (by kernel_rfl) (by kernel_rfl) (fun _ _ _ h => h) (Or.inl ⟨by rfl, ?hrd27⟩) hS0 ?rrd27
            case hrd27 => (intro wz hSw; go_simp <;> with_reducible rfl)
            (try simp only [Act.put, List.setIfInBounds_toArray, List.set_cons_zero, List.set_cons_succ])
            refine wpAnyH_take (i := 28) (oi := ⟨some 47, Op.load 27 (Operand.tmp 46), 27, _, _, some (13, false)⟩) (v := ?vrd28) rfl (by kernel_rfl) (by kernel_rfl) (by kernel_rfl) (fun _ _ _ h => h) (Or.inl ⟨by rfl, ?hrd28⟩) hS0 ?rrd28
            case hrd28 => (intro wz hSw; obtain ⟨x0, q1, q2, q3, c0, c1⟩ := HC.out wz hSw; obtain ⟨p1, p2, p3⟩ := HJ.out wz hSw; go_simp <;> with_reducible rfl)
            (try simp only [Act.put, List.setIfInBounds_toArray, List.set_cons_zero, List.set_cons_succ])
            refine wpAnyH_take (i := 29) (oi := ⟨some 48, Op.move (Operand.tmp 8), 3, _, _, some (13, false)⟩) (v := ?vrd29) rfl (by kernel_rfl) (by kernel_rfl) (by kernel_rfl) (fun _ _ _ h => h) (Or.inl ⟨by rfl, ?hrd29⟩) hS0 ?rrd29
            case hrd29 => (intro wz hSw; go_simp <;> with_reducible rfl)
            (try simp only [Act.put, List.setIfInBounds_toArray, List.set_cons_zero, List.set_cons_succ])
            refine wpAnyH_take (i := 30) (oi := ⟨some 49, Op.indexAddr 27 (Operand.tmp 47) (Operand.tmp 48), 0, _, _, some (13, false)⟩) (v := ?vrd30) rfl (by kernel_rfl) (by kernel_rfl) (by kernel_rfl) (fun _ _ _ h => h) (Or.inl ⟨by rfl, ?hrd30⟩) hS0 ?rrd30
            case hrd30 => (intro wz hSw; go_simp <;> with_reducible rfl)
            (try simp only [Act.put, List.setIfInBounds_toArray, List.set_cons_zero, List.set_cons_succ])
            refine wpAnyH_take (i := 31) (oi := ⟨some 50, Op.fieldAddr 57 (Operand.tmp 49) 1, 0, _, _, some (13, false)⟩) (v := ?vrd31) rfl (by kernel_rfl) (by kernel_rfl) (by kernel_rfl) (fun _ _ _ h => h) (Or.inl ⟨by rfl, ?hrd31⟩) hS0 ?rrd31
            case hrd31 => (intro wz hSw; go_simp <;> with_reducible rfl)
            (try simp only [Act.put, List.setIfInBounds_toArray, List.set_cons_zero, List.set_cons_succ])
            refine wpAnyH_take (i := 32) (oi := ⟨some 51, Op.load 32 (Operand.tmp 50), 32, _, _, some (13, false)⟩) (v := ?vrd32) rfl (by kernel_rfl) (by kernel_rfl) (by kernel_rfl) (fun _ _ _ h => h) (Or.inl ⟨by rfl, ?hrd32⟩) hS0 ?rrd32
            case hrd32 => (intro wz hSw; obtain ⟨x0, q1, q2, q3, c0, c1⟩ := HC.out wz hSw; obtain ⟨p1, p2, p3⟩ := HJ.out wz hSw; go_simp <;> with_reducible rfl)
            (try simp only [Act.put, List.setIfInBounds_toArray, List.set_cons_zero, List.set_cons_succ])
            refine wpAnyH_ready (rs := [23]) (by kernel_rfl) (by simp) ?_
            refine AllReadyH.cons (o := ⟨some 42, Op.call { callee := Callee.value (Operand.func 25), args := #[Operand.tmp 33, Operand.tmp 41], argTypes := #[32, 32] }, 3, _, _, some (13, false)⟩) rfl (fun K hK => ?_) AllReadyH.nil
            go_simp
            (with_reducible refine (HN1.out _).mono ?_); rintro e v1 ⟨rfl, hB1⟩; have hS1 := hS0.trans (hB1.mono hS0.size)
            refine hK.out _ _ hS1 (fun _ => ?_)
            clear hK K
            (try simp only [Act.put, List.setIfInBounds_toArray, List.set_cons_zero, List.set_cons_succ])
            refine wpAnyH_ready (rs := [33]) (by kernel_rfl) (by simp) ?_
            refine AllReadyH.cons (o := ⟨some 52, Op.call { callee := Callee.value (Operand.func 25), args := #[Operand.tmp 43, Operand.tmp 51], argTypes := #[32, 32] }, 3, _, _, some (13, false)⟩) rfl (fun K hK => ?_) AllReadyH.nil
            go_simp
            (with_reducible refine (HN2.out _).mono ?_); rintro e v2 ⟨rfl, hB2⟩; have hS2 := hS1.trans (hB2.mono hS1.size)
            refine hK.out _ _ hS2 (fun _ => ?_)
            clear hK K
            (try simp only [Act.put, List.setIfInBounds_toArray, List.set_cons_zero, List.set_cons_succ])
            refine wpAnyH_take (i := 34) (oi := ⟨some 53, Op.binOp BinOp.lss 3 (Operand.tmp 42) (Operand.tmp 52) 3, 4, _, _, some (13, false)⟩) (v := ?vrd34) rfl (by kernel_rfl) (by kernel_rfl) (by kernel_rfl) (fun _ _ _ h => h) (Or.inl ⟨by rfl, ?hrd34⟩) hS2 ?rrd34
            case hrd34 => (intro wz hSw; go_simp <;> with_reducible rfl)
            (try simp only [Act.put, List.setIfInBounds_toArray, List.set_cons_zero, List.set_cons_succ])
            refine wpAnyH_take (i := 35) (oi := ⟨some 54, Op.pick (Operand.tmp 32) (Operand.const (Value.bool true)) (Operand.tmp 53), 4, _, _, some (10, true)⟩) (v := ?vrd35) rfl (by kernel_rfl) (by kernel_rfl) (by kernel_rfl) (fun _ _ _ h => h) (Or.inl ⟨by rfl, ?hrd35⟩) hS2 ?rrd35
            case hrd35 => (intro wz hSw; go_simp <;> with_reducible rfl)
            (try simp only [Act.put, List.setIfInBounds_toArray, List.set_cons_zero, List.set_cons_succ])
            refine wpAnyH_take (i := 36) (oi := ⟨some 55, Op.pick (Operand.tmp 29) (Operand.tmp 54) (Operand.const (Value.bool false)), 4, _, _, none⟩) (v := ?vrd36) rfl (by kernel_rfl) (by kernel_rfl) (by kernel_rfl) (fun _ _ _ h => h) (Or.inl ⟨by rfl, ?hrd36⟩) hS2 ?rrd36
            case hrd36 => (intro wz hSw; go_simp <;> with_reducible rfl)
            (try simp only [Act.put, List.setIfInBounds_toArray, List.set_cons_zero, List.set_cons_succ])
            refine wpAnyH_done (by kernel_rfl) ?_ _
            refine NoPanic.normal ?_
            have HV := Lib.hid hS2
            generalize hv9 : v2 = V2 at HV ⊢
            clear hv9
            have HR2 := Lib.hid (HR.out.step HV.out)
            go_wp2
            go_roundg (S.length - (k + 1))
            · exact ⟨k + 1, j, hk1, rfl, by go_num, rfl, HL2, HR2⟩
            · omega
    · have hkk2 : ¬ (k : Int) < S.length := by omega
      have hkk : decide ((k : Int) < S.length) = false := by simp; omega
      have hke : k = S.length := by omega
      have HLe : Hid (Bst S px py nt S.length bx) := Lib.hid (hke ▸ HL.out)
      clear hke hkl HL
      rcases HLe.out with ⟨rfl, _⟩ | ⟨j, rfl, hjl, _, _⟩
      · have hm1 : decide ((-1 : Int) < 0) = true := by decide
        go_wp2
        go_ret2
        first | exact ⟨false, 0, 0, rfl, Lib.hid (bst_none HLe.out), Lib.hid HR.out.bel⟩ | exact .inl ⟨0, 0, rfl, Lib.hid (bst_none HLe.out), Lib.hid HR.out.bel⟩
      · have hj0 : decide ((j : Int) < 0) = false := by simp
        have hjl2 : (j : Int) < S.length := by omega
        have hjp : (0 : Int) ≤ (j : Int) := by omega
        obtain ⟨b, hA, hbl, q1, _, _⟩ := HR.out.q.row.rt.at' hjl
        subst hA
        have HF := Lib.hid (bst_some HG.out HLe.out).2
        clear hjl
        go_wp2
        go_ret2
        first | exact ⟨true, _, (g S j).id, rfl, HF, Lib.hid HR.out.bel⟩ | exact .inr ⟨_, (g S j).id, rfl, HF, Lib.hid HR.out.bel⟩
end
end Go.Proofs.Ytehllnbpianpfaa.Con
