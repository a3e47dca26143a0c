/-
  The contract of the document's queue: CancelTag.
-/
import Derived.Test.YtibiobcjnnoeeaaRdu
namespace Go.Proofs.Ytibiobcjnnoeeaa.Con
open Go.RowKit Tmr Go.Maps

theorem delTag_yes {S : List Tm} {tag : Int} {k : Nat} (hk : k < S.length) (h : (g S k).tag = tag) : delTag (S.take (k + 1)) tag = delTag (S.take k) tag := by
  rw [take_g hk]; simp [delTag, h]
theorem delTag_no {S : List Tm} {tag : Int} {k : Nat} (hk : k < S.length) (h : (g S k).tag ≠ tag) : delTag (S.take (k + 1)) tag = delTag (S.take k) tag ++ [g S k] := by
  rw [take_g hk]; simp [delTag, h]
theorem new_own1 {w1 : World} {B0 : Nat} {Ac : Option Addr} {cc : Nat} {C : List Tm} (h : Own w1 B0 Ac cc C) (t : Tm) : (w1.alloc (tob t)).ownsRow B0 33 3 (.slice Ac C.length cc) C.length (tvs C) :=
  h.keep (w' := w1.alloc (tob t)) (fun k hk => Below.heap_alloc _ _ k (h.lt k hk).2)
theorem new_cells1 (w1 : World) (t : Tm) : ∀ j u, (tv t)[j]? = some u → (w1.alloc (tob t)).cell? ((⟨w1.heap.size, 0, none⟩ : Addr).add j) = some u :=
  World.news_of_block (w := w1.alloc (tob t)) (heap_alloc_new w1 (tob t))
theorem app_own1 {w w1 w3 : World} {B0 n b3 c3 cc : Nat} {Ac : Option Addr} {C : List Tm} {t : Tm} {o : Obj} (hC : Own w1 B0 Ac cc C) (hb : Below B0 w w1) (hB : B0 ≤ w1.heap.size) (hg : (w1.alloc o).grownBy w3 (Value.slice Ac n cc).ownBlock) (hr : w3.ownsRow B0 33 3 (.slice (some ⟨b3, 0, none⟩) (C.length + 1) c3) (C.length + 1) (tvs C ++ tv t)) : Own w3 B0 (some ⟨b3, 0, none⟩) c3 (C ++ [t]) ∧ Below B0 w w3 := by
  have o1 : Off w1 w3 (blk Ac).toList := ((Off.refl w1 _).alloc o).same (Off.of_grown hg (fun k e => by rw [blk_own] at e; simp [e]))
  refine ⟨?_, hb.trans (o1.below hB (fun k hk => (hC.lt k (by simpa using hk)).1))⟩
  have e : tvs C ++ tv t = tvs (C ++ [t]) := tvs_app C [t]
  have el : C.length + 1 = (C ++ [t]).length := by simp
  rw [e, el] at hr
  exact hr
section
variable {w w' : World} {base gb : Nat} {A : Option Addr} {c : Nat} {S : List Tm} {last : Int}
theorem tag_count (S : List Tm) (tag : Int) : (delTag S tag).length ≤ S.length := List.length_filter_le _ _
theorem rtag_end {wr : World} {Al : Option Addr} {cl : Nat} {L : List Tm} {tag : Int} (h : RQ w base gb A c S last) (hb : Below w.heap.size w wr) (ho : Own wr w.heap.size Al cl L) (hL : L = delTag S tag) : RLeft w base gb A (delTag S tag) last (wr.setCell ⟨gb, 0, none⟩ (.slice Al L.length cl)) := by
  have hlt := h.lt
  have o1 : Off w wr (rbl gb A) := Off.of_below hb
  have o0 : Off w wr [] := ⟨hb.os, hb.tape, hb.output, hb.size, fun k hk _ => hb.block k hk⟩
  have hne : ∀ k, blk Al = some k → k ≠ gb := fun k hk => by have := (ho.lt k hk).1; omega
  have hq := h.set0 (A' := Al) (c' := cl) (S' := L) o0 (by simp) (ROw.of_own (ho.more (by have := h.bg; omega))) hne (by rw [hL]; exact h.good.filter _) (by rw [hL]; have := tag_count S tag; have := h.len; omega) L.length rfl
  rw [hL] at hq ⊢
  refine ⟨Al, cl, Lib.hid hq, Lib.hid (o1.setCell (by simp [rbl]) _), Lib.hid (fun k hk => ?_)⟩
  simp only [rbl, List.mem_cons, Option.mem_toList] at hk ⊢
  rcases hk with hk | hk
  · exact .inl (.inl hk)
  · exact .inr (ho.lt k hk).1
set_option maxHeartbeats 4000000 in
theorem rtag (h : RQ w base gb A c S last) (tag : Int) (hS : (S.length : Int) < 1000) : Calls Try.prog 20 #[.pointer (some ⟨gb, 0, none⟩), .int .i64 tag] w fun e w' => ∃ n : Nat, e = .returned (.int .i64 n) ∧ Hid (n + (delTag S tag).length = S.length) ∧ RLeft w base gb A (delTag S tag) last w' := by
  have hl3 : (S.length : Int) ≤ 3000 := by omega
  have hlt := h.lt
  have HQ := Lib.hid h
  clear h hS
  obtain ⟨i0, hi0, hz0, hz1, hz2⟩ := info_parts info33
  have HI0 := Lib.hid hi0; have HZ0 := Lib.hid hz0; have HZ1 := Lib.hid hz1; have HZ2 := Lib.hid hz2
  clear hi0 hz0 hz1 hz2
  go_enter Try.func20, Try.ntmps20
  go_wp2
  go_loopg [5, 6] S.length (fun m s5 s6 wr => ∃ (k : Nat) (L : List Tm) (Al : Option Addr) (cl : Nat), k ≤ S.length ∧ m = S.length - k ∧ s5 = .slice Al L.length cl ∧ s6 = .int .i64 (k : Int) ∧ (L.length : Int) ≤ k ∧ Hid (L = delTag (S.take k) tag) ∧ Hid (Own wr w.heap.size Al cl L) ∧ Hid (Below w.heap.size w wr))
  case atStart => exact ⟨0, [], none, 0, by omega, rfl, rfl, rfl, by simp, Lib.hid (by simp [delTag]), Lib.hid (Own.nil _ _), Lib.hid (Below.refl _ _)⟩
  case round =>
    obtain ⟨k, L, Al, cl, hk, rfl, rfl, rfl, hLk, HL, HO, HB⟩ := hrel
    have HQr := Lib.hid (HQ.out.step HB.out)
    have hc0 := HQr.out.cell0
    have hsz := HB.out.size
    by_cases hkl : k < S.length
    · have hkl' : (k : Int) < S.length := by omega
      have hkp : (0 : Int) ≤ (k : Int) := by omega
      obtain ⟨b, hA, hbl, e1, e2, e3⟩ := HQr.out.row.rt.at' hkl
      obtain ⟨t, ht⟩ : ∃ t, g S k = t := ⟨_, rfl⟩
      rw [ht] at e1 e2 e3
      by_cases htt : t.tag = tag
      · have hte : (t.tag != tag) = false := by simpa using htt
        have HL2 : Hid (L = delTag (S.take (k + 1)) tag) := Lib.hid (by rw [delTag_yes (tag := tag) hkl (by rw [ht]; exact htt)]; exact HL.out)
        subst hA
        clear ht htt
        go_wp2
        go_roundg (S.length - (k + 1))
        · exact ⟨k + 1, L, Al, cl, by omega, rfl, rfl, by simp, by omega, HL2, HO, HB⟩
        · omega
      · have hte : (t.tag != tag) = true := by simpa using htt
        have HL2 : Hid (L ++ [t] = delTag (S.take (k + 1)) tag) := Lib.hid (by rw [delTag_no (tag := tag) hkl (by rw [ht]; exact htt), ht, HL.out])
        have HOwn := Lib.hid (new_own1 HO.out t); have HNw := Lib.hid (new_cells1 wr t)
        have HBs : Hid (w.heap.size ≤ (wr.alloc (tob t)).heap.size) := Lib.hid (by simp; omega)
        have HSz : Hid ((wr.alloc (tob t)).heap.size = wr.heap.size + 1) := Lib.hid (by simp)
        subst hA
        clear ht htt
        go_wp2_with (at_builtin; refine wpList_append_lies _ rfl (.tmp 27) (.tmp 35) 27 rfl w.heap.size 33 i0 _ 3 24 Try.underlying27 HI0.out HZ0.out HZ1.out HZ2.out rfl (by omega) (.slice Al L.length cl) L.length (tvs L) rfl HOwn.out ⟨wr.heap.size, 0, none⟩ 1 1 (tv t) rfl rfl HNw.out (tvs_one [t]) (by omega) (by unfold maxLen; omega) (by omega) HBs.out (wr.heap.size + 1) HSz.out ?_; intro b3 c3 w3 hown3 hg3 hat3 hlt3; (have hk3 := app_own1 HO.out HB.out hsz hg3 hown3); obtain ⟨hO3, hB3⟩ := hk3; have HO3 := Lib.hid hO3; have HB3 := Lib.hid hB3; clear hO3 hB3 hown3 hg3 hat3 hlt3)
        go_roundg (S.length - (k + 1))
        · exact ⟨k + 1, L ++ [t], some ⟨b3, 0, none⟩, c3, by omega, rfl, by simp, by simp, by simp; omega, HL2, HO3, HB3⟩
        · omega
    · have hkk : decide ((k : Int) < S.length) = false := by simp; omega
      have hkk2 : ¬ (k : Int) < S.length := by omega
      have HL2 : Hid (L = delTag S tag) := Lib.hid (by rw [HL.out, List.take_of_length_le (by omega)])
      obtain ⟨n, hn⟩ : ∃ n, n + L.length = S.length := ⟨S.length - L.length, by omega⟩
      have hsub : (S.length : Int) - (L.length : Int) = (n : Int) := by omega
      have HN : Hid (n + (delTag S tag).length = S.length) := Lib.hid (by rw [← HL2.out]; exact hn)
      have hf0 := HQr.out.fz 0
      have HE := Lib.hid (rtag_end HQ.out HB.out HO.out HL2.out)
      clear hkl hn
      go_wp2
      go_ret
      exact ⟨n, rfl, HN, HE.out⟩
end
end Go.Proofs.Ytibiobcjnnoeeaa.Con
