/-
  The contract of the index's Ids: the numbers of all units, rising.
-/
import Derived.Test.YtehllnbpianpfaaRng
import Derived.Test.YtehllnbpianpfaaLay
namespace Go.Proofs.Ytehllnbpianpfaa.Con
open Go.RowKit Cll Go.Maps Go.Shelf Go.Sort
section
variable {w : World} {S : Nat → Prop} {N xb hb cb : Nat} {Dh Dc : DataW Unit} {L : List Un}
theorem IX.nums (h : IX w S N xb hb cb Dh Dc L) : (ids L (fun _ => true)).Perm (intKeys Dh) := by
  obtain ⟨es, e1, hp, _⟩ := h.hom.entries kInt
  obtain ⟨es', e2, hk⟩ := h.hom.keysOf
  rw [e1] at e2
  injection e2 with e2
  subst e2
  have hv := h.homv
  rw [e1] at hv ⊢
  refine perm_intKeys hp (fun p hp => ?_) ((ids_asc h.good.asc _).imp (fun h => by omega)) (fun x => ?_)
  · obtain ⟨v, hv⟩ := hk p hp
    obtain ⟨x, _, e, _⟩ := Maps.keyOf_int_inv Try.underlying3 hv
    exact ⟨x, e⟩
  · have h1 := congrArg Option.isSome (hv x)
    rw [look_is] at h1
    have h2 : (Option.map (fun t : Un => td (t.x / 16) (t.y / 16)) (lk L x)).isSome = hasId L x := by rw [Option.isSome_map, lk_is]
    rw [h2] at h1
    show _ ↔ Maps.has (.map es) (key x) = true
    rw [h1, hasId_iff]
    simp [ids]
set_option maxHeartbeats 2000000 in
theorem ids_ix (h : IX w S N xb hb cb Dh Dc L) : Calls Try.prog 19 #[.pointer (some ⟨xb, 0, none⟩)] w fun e w' => ∃ A c l, e = .returned (.slice A (List.length l) c) ∧ Hid (l = ids L (fun _ => true)) ∧ Hid (Mei.Rd .i64 w' w'.heap.size A l) ∧ Hid (Below w.heap.size w w') := by
  refine (callsIn_wide (n := 6)).1 ?_
  have hc0 := h.cell0
  have hnums := h.nums
  have hgood := h.good.asc
  have hown := h.hom
  have hmax : Maps.size Dh ≤ maxLen := by have := hown.size_le; have := h.cap; unfold maxLen; omega
  have hbytes : Maps.size Dh * 8 ≤ 140737488355328 := by have := hown.size_le; have := h.cap; omega
  have hbl := hown.lt
  have hseq : SeqGives Fence.wide 2 Try.prog 40 #[.pointer (some ⟨w.heap.size, 0, none⟩)] encZ (fun ss => ss.Perm (intKeys Dh)) (Maps.size Dh) (w.alloc (.cells #[.map (some hb)] 49)) :=
    AnyZI.keys_gives (ρ := lsKeys_ren) { lsKeys with } Fence.wide _ trivial rfl (by omega) w.heap.size hb N Dh _ (by simp) (by simp) (by
      obtain ⟨es, clock, hb, Ft, hs, hD⟩ := hown
      exact ⟨es, clock, (Below.heap_alloc _ _ _ hbl).trans hb, Ft, hs, hD⟩)
  have cK : ∀ mb W, CallsIn Fence.wide 5 Try.prog 29 #[.map mb] W fun e w' => e = .returned (.func (.func 40) #[] #[.pointer (some ⟨W.heap.size, 0, none⟩)]) ∧ w' = W.alloc (.cells #[.map mb] 49) := fun mb W => AnyZI.keys_in lsKeys Fence.wide 5 trivial rfl mb W
  have cS := AnyZI.sorted_in lsSorted Fence.wide 5 trivial trivial trivial trivial rfl (by omega) (sorts_in _) (enters_of Try.func26 (by kernel_rfl) rfl) 40 #[.pointer (some ⟨w.heap.size, 0, none⟩)] trivial (enters_of Try.func40 (by kernel_rfl) rfl) _ _ hmax hbytes _ hseq
  change CallsIn _ _ Try.prog 28 _ _ _ at cS
  have hfK : Fence.wide.fn 29 := trivial
  have hfS : Fence.wide.fn 28 := trivial
  clear h
  refine callsIn_of_wp Try.func19 rfl trivial ?_ rfl
  simp only [Try.ntmps19, List.size_toArray, List.length_cons, List.length_nil, Nat.reduceAdd, Nat.reduceSub, Array.replicate_succ, Array.replicate_zero, List.push_toArray, List.append_toArray, List.nil_append, List.cons_append]
  gi_wp2_with (first
    | (gi_at_call 29; refine (cK _ _).mono ?_; rintro e w' ⟨rfl, rfl⟩)
    | (gi_at_call 28; refine cS.mono ?_; rintro e w' ⟨v, ss, rfl, hS, hrow, hnil, hbw⟩))
  go_ret
  have hl : (ss.mergeSort (fun x y => decide (x ≤ y))).length = ss.length := List.length_mergeSort _
  obtain ⟨A, c, rfl⟩ := Mei.own_shape hrow
  rw [← hl] at hrow
  have hrd : Mei.Rd .i64 w' w'.heap.size A (ss.mergeSort (fun x y => decide (x ≤ y))) := Mei.Rd.of_own (show w'.ownsRow (w.alloc (.cells #[.map (some hb)] 49)).heap.size 3 1 (.slice A (ss.mergeSort (fun x y => decide (x ≤ y))).length c) _ (Mei.vs .i64 (ss.mergeSort (fun x y => decide (x ≤ y)))) from hrow)
  refine ⟨A, c, ss.mergeSort (fun x y => decide (x ≤ y)), by rw [hl]; rfl, Lib.hid (sorted_ids hgood (hS.trans hnums.symm)), Lib.hid hrd, Lib.hid (((Below.refl _ w).alloc (Nat.le_refl _) _).trans (hbw.mono (by simp)))⟩
end
end Go.Proofs.Ytehllnbpianpfaa.Con
