/-
  The document's own At and Ids.
-/
import Derived.Test.YtehllnbpianpfaaRdr
import Derived.Handy
namespace Go.Proofs.Ytehllnbpianpfaa.Con
open Go.RowKit Cll Go.Maps
section
variable {w : World} {base gb : Nat} {A : Option Addr} {c : Nat} {S : List Un}
/-- Behind the box of the answer. -/
theorem box_facts (w : World) : ∃ w1, w1 = w.alloc (.cells #[.int .i64 0, .int .i64 0] 32) ∧ Below w.heap.size w w1 ∧ w1.heap[w.heap.size]? = some (.cells #[.int .i64 0, .int .i64 0] 32 (0, 0)) := ⟨_, rfl, (Below.refl _ w).alloc (Nat.le_refl _) _, heap_alloc_new w _⟩
set_option maxHeartbeats 4000000 in
theorem rat_any (h : RQ w base gb A c S) (id : Int) (hS : (S.length : Int) < 1000) (px py : Int) (f : Bool) (hv : match lk S id with | some t => px = t.x ∧ py = t.y ∧ f = true | none => px = 0 ∧ py = 0 ∧ f = false) : Calls Try.prog 13 #[.pointer (some ⟨gb, 0, none⟩), .int .i64 id] w fun e w' => e = .returned (.tuple #[pv px py, .bool f]) ∧ Below w.heap.size w w' := by
  have hlt := h.lt
  have hb1 : Below w.heap.size w (w.alloc (.cells #[.int .i64 0, .int .i64 0] 32)) := (Below.refl _ w).alloc (Nat.le_refl _) _
  have hq := h.step hb1
  have hbx := heap_alloc_new w (.cells #[.int .i64 0, .int .i64 0] 32)
  have HB := Lib.hid hb1; have HQ := Lib.hid hq; have HV := Lib.hid hv
  clear h hb1 hv hq
  go_enter Try.func13, Try.ntmps13
  go_wp2
  generalize w.alloc (.cells #[.int .i64 0, .int .i64 0] 32) = w1 at *
  have hc0 := HQ.out.cell0
  have f0 : w1.frozen? ⟨w.heap.size, 0, none⟩ = false := by simp [World.frozen?, hbx]
  have f1 : w1.frozen? ⟨w.heap.size, 1, none⟩ = false := by simp [World.frozen?, hbx]
  have e0 : w1.cell? ⟨w.heap.size, 0, none⟩ = some (.int .i64 0) := (cell_of_row w1 _ 0 _ 32 (0, 0) hbx).trans rfl
  have e1 : w1.cell? ⟨w.heap.size, 1, none⟩ = some (.int .i64 0) := (cell_of_row w1 _ 1 _ 32 (0, 0) hbx).trans rfl
  clear hbx
  have HS : Hid (∀ a b : Int, (w1.setCell ⟨w.heap.size, 0, none⟩ (.int .i64 a)).cell? ⟨w.heap.size, 0, none⟩ = some (.int .i64 a) ∧ (w1.setCell ⟨w.heap.size, 0, none⟩ (.int .i64 a)).cell? ⟨w.heap.size, 1, none⟩ = some (.int .i64 0) ∧ ((w1.setCell ⟨w.heap.size, 0, none⟩ (.int .i64 a)).setCell ⟨w.heap.size, 1, none⟩ (.int .i64 b)).cell? ⟨w.heap.size, 1, none⟩ = some (.int .i64 b)) := Lib.hid (fun a b => by
    have s1 : (w1.setCell ⟨w.heap.size, 0, none⟩ (.int .i64 a)).cell? ⟨w.heap.size, 1, none⟩ = some (.int .i64 0) := (World.cell?_setCell_other _ _ _ _ (by simp)).trans e1
    exact ⟨World.cell?_setCell_same _ _ _ e0, s1, World.cell?_setCell_same _ _ _ s1⟩)
  go_loopg [6] S.length (fun m s6 wr => ∃ k : Nat, k ≤ S.length ∧ m = S.length - k ∧ s6 = .int .i64 (k : Int) ∧ wr = w1 ∧ Hid (∀ i, i < k → (g S i).id ≠ id))
  case atStart => exact ⟨0, by omega, rfl, rfl, rfl, Lib.hid (fun i hi => by omega)⟩
  case round =>
    obtain ⟨k, hk, rfl, rfl, rfl, HN⟩ := hrel
    by_cases hkl : k < S.length
    · have hkl' : (k : Int) < S.length := by omega
      have hkp : (0 : Int) ≤ (k : Int) := by omega
      obtain ⟨b, hA, hbl, q1, q2, q3⟩ := HQ.out.row.rt.at' hkl
      subst hA
      by_cases hid : (g S k).id = id
      · have hide : ((g S k).id == id) = true := by simpa using hid
        have HL : Hid (px = (g S k).x ∧ py = (g S k).y ∧ f = true) := Lib.hid (by
          have := HV.out
          rw [lk_of HQ.out.good (g_mem hkl) hid] at this
          exact this)
        obtain ⟨s0, s1, s2⟩ := HS.out (g S k).x (g S k).y
        clear hid
        go_wp2
        refine bodyPost_ret (by simp [results, Try.results13, go_sem, s0, s2]; try rfl) rfl ?_
        obtain ⟨z0, z1, z2⟩ := HL.out
        subst z0; subst z1; subst z2
        exact ⟨rfl, (HB.out.setCell (Nat.le_refl _) _).setCell (Nat.le_refl _) _⟩
      · have hide : ((g S k).id == id) = false := by simpa using hid
        have HN2 : Hid (∀ i, i < k + 1 → (g S i).id ≠ id) := Lib.hid (fun i hi => by
          rcases (by omega : i = k ∨ i < k) with rfl | h
          · exact hid
          · exact HN.out i h)
        clear hid
        go_wp2
        go_roundg (S.length - (k + 1))
        · exact ⟨k + 1, by omega, rfl, by go_num, rfl, HN2⟩
        · omega
    · have hkk : decide ((k : Int) < S.length) = false := by simp; omega
      have hno : lk S id = none := lk_not (fun t ht e => by
        obtain ⟨i, hi, e2⟩ := idx_of ht
        exact HN.out i (by omega) (by rw [e2]; exact e))
      have HL : Hid (px = 0 ∧ py = 0 ∧ f = false) := Lib.hid (by
        have := HV.out
        rw [hno] at this
        exact this)
      have hkk2 : ¬ (k : Int) < S.length := by omega
      obtain ⟨s0, s1, s2⟩ := HS.out 0 0
      clear hno hkl
      go_wp2
      refine bodyPost_ret (by simp [results, Try.results13, go_sem, s0, s2]; try rfl) rfl ?_
      obtain ⟨z0, z1, z2⟩ := HL.out
      subst z0; subst z1; subst z2
      exact ⟨rfl, (HB.out.setCell (Nat.le_refl _) _).setCell (Nat.le_refl _) _⟩
theorem ids_take {k : Nat} (P : Un → Bool) (hk : k < S.length) : ((S.take (k + 1)).filter P).map (·.id) = ((S.take k).filter P).map (·.id) ++ (if P (g S k) then [(g S k).id] else []) := by
  rw [List.take_add_one, g_at hk, List.filter_append, List.map_append]
  cases hp : P (g S k) <;> simp [hp]
set_option maxHeartbeats 4000000 in
theorem rids_any (h : RQ w base gb A c S) (hS : (S.length : Int) < 1000) : Calls Try.prog 20 #[.pointer (some ⟨gb, 0, none⟩)] w fun e w' => ∃ A' c' l, e = .returned (.slice A' (List.length l) c') ∧ Hid (l = ids S (fun _ => true)) ∧ Hid (Mei.Rd .i64 w' w'.heap.size A' l) ∧ Hid (Below w.heap.size w w') := by
  have HQ := Lib.hid h
  have hlt := h.lt
  clear h
  go_enter Try.func20, Try.ntmps20
  go_wp2
  go_loopg [3, 4] S.length (fun m s3 s4 wr => ∃ (k : Nat) (A' : Option Addr) (c' : Nat) (l : List Int), k ≤ S.length ∧ m = S.length - k ∧ s4 = .int .i64 (k : Int) ∧ s3 = .slice A' l.length c' ∧ Hid (l = ((S.take k).filter (fun _ => true)).map (·.id)) ∧ Hid (Mei.Own wr w.heap.size .i64 3 A' c' l) ∧ Hid (Below w.heap.size w wr))
  case atStart => exact ⟨0, none, 0, [], by omega, rfl, rfl, rfl, Lib.hid (by simp), Lib.hid (World.ownsRow_nil _ _ _ _), Lib.hid (Below.refl _ _)⟩
  case round =>
    obtain ⟨k, A', c', l, hk, rfl, rfl, rfl, HL, HW, HB⟩ := hrel
    have HQr := Lib.hid (HQ.out.step HB.out)
    have hc0 := HQr.out.cell0
    by_cases hkl : k < S.length
    · have hkl' : (k : Int) < S.length := by omega
      have hkp : (0 : Int) ≤ (k : Int) := by omega
      obtain ⟨b, hA, hbl, q1, q2, q3⟩ := HQr.out.row.rt.at' hkl
      have hbs := HB.out.size
      have hll : (l.length : Int) ≤ 1000 := by rw [HL.out, List.length_map]; have := List.length_filter_le (fun _ : Un => true) (S.take k); rw [List.length_take] at this; omega
      have HL2 : Hid (∀ lm, lm = l ++ [(g S k).id] → lm = ((S.take (k + 1)).filter (fun _ => true)).map (·.id)) := Lib.hid (fun lm e => by rw [ids_take (fun _ => true) hkl, ← HL.out, e]; simp)
      subst hA
      go_wp2_with (at_builtin; refine Mei.wpList_app (K := .i64) (t := 40) (e := 3) Try.underlying40 Mei.int_info rfl (by omega) rfl (.tmp 14) (.tmp 23) rfl w.heap.size (wr.heap.size + 1) A' c' l [(g S k).id] _ _ rfl rfl (HW.out.alloc _) (Mei.rd_new _ _ _ _ rfl) (by simp; omega) (by simp; omega) ?_; intro A2 c2 w2 lm HLm HO2 HS2)
      go_roundg (S.length - (k + 1))
      · exact ⟨k + 1, A2, c2, lm, by omega, rfl, by go_num, rfl, Lib.hid (HL2.out lm HLm.out), HO2, Lib.hid ((HB.out.alloc hbs _).grown HS2.out.grown (by simp; omega) (fun z hz => (HW.out.lt z hz).1))⟩
      · omega
    · have hkk2 : ¬ (k : Int) < S.length := by omega
      have hkk : decide ((k : Int) < S.length) = false := by simp; omega
      have hke : k = S.length := by omega
      have HLe : Hid (l = ids S (fun _ => true)) := Lib.hid (by rw [HL.out, hke, List.take_length]; rfl)
      clear hke hkl
      go_wp2
      go_ret
      exact ⟨A', c', l, rfl, HLe, Lib.hid (Mei.Rd.of_own HW.out), HB⟩
end
end Go.Proofs.Ytehllnbpianpfaa.Con
