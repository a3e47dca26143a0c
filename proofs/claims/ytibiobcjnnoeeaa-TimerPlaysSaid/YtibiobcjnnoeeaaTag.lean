/-
  The contract of a queue's CancelTag.
-/
import Derived.Test.YtibiobcjnnoeeaaDue
namespace Go.Proofs.Ytibiobcjnnoeeaa.Con
open Go.RowKit Tmr Go.Maps

/-- Numbers of the timers of a tag. -/
def idsOf (tag : Int) (l : List Tm) : List Int := (l.filter (fun t => t.tag == tag)).map (·.id)
theorem take_g {l : List Tm} {k : Nat} (hk : k < l.length) : l.take (k + 1) = l.take k ++ [g l k] := by
  rw [List.take_add_one, g_at hk]; rfl
theorem idsOf_yes {tag : Int} {l : List Tm} {k : Nat} (hk : k < l.length) (h : (g l k).tag = tag) : idsOf tag (l.take (k + 1)) = idsOf tag (l.take k) ++ [(g l k).id] := by
  rw [take_g hk]; simp [idsOf, h]
theorem idsOf_no {tag : Int} {l : List Tm} {k : Nat} (hk : k < l.length) (h : (g l k).tag ≠ tag) : idsOf tag (l.take (k + 1)) = idsOf tag (l.take k) := by
  rw [take_g hk]; simp [idsOf, h]
theorem idsOf_len (tag : Int) (l : List Tm) : (idsOf tag l).length ≤ l.length := by
  simp only [idsOf, List.length_map]; exact List.length_filter_le _ _
def dels (S : List Tm) (ids : List Int) : List Tm := S.filter (fun t => !ids.contains t.id)
theorem dels_nil (S : List Tm) : dels S [] = S := by simp [dels]
theorem dels_snoc (S : List Tm) (ids : List Int) (x : Int) : dels S (ids ++ [x]) = del (dels S ids) x := by
  unfold dels del
  rw [List.filter_filter]
  congr 1
  funext t
  simp only [List.contains_append, List.contains_cons, List.contains_nil, Bool.or_false, Bool.not_or, bne, Bool.and_comm]
theorem dels_tag {l S : List Tm} {last : Int} (hp : l.Perm S) (hg : Tmr.Good S last) (tag : Int) : dels S (idsOf tag l) = delTag S tag := by
  unfold dels delTag
  apply List.filter_congr
  intro t ht
  have : (idsOf tag l).contains t.id = (t.tag == tag) := by
    rw [Bool.eq_iff_iff]
    simp only [List.contains_iff_mem, beq_iff_eq]
    unfold idsOf
    rw [List.mem_map]
    constructor
    · rintro ⟨u, hu, e⟩
      obtain ⟨h1, h2⟩ := List.mem_filter.1 hu
      have := uniq hg.ne (hp.mem_iff.1 h1) ht e
      subst this
      simpa using h2
    · intro e
      exact ⟨t, List.mem_filter.2 ⟨hp.mem_iff.2 ht, by simpa using e⟩, rfl⟩
  rw [this]
  rfl
theorem ids_count {l S : List Tm} (hp : l.Perm S) (tag : Int) : (idsOf tag l).length + (delTag S tag).length = S.length := by
  have h1 := (hp.filter (fun t => t.tag == tag)).length_eq
  unfold idsOf delTag
  rw [List.length_map, h1]
  clear h1 hp
  induction S with
  | nil => rfl
  | cons x r ih =>
    by_cases hx : x.tag = tag
    · rw [List.filter_cons_of_pos (by simp [hx]), List.filter_cons_of_neg (by simp [hx])]
      simp only [List.length_cons]
      omega
    · rw [List.filter_cons_of_neg (by simp [hx]), List.filter_cons_of_pos (by simp [hx])]
      simp only [List.length_cons]
      omega

/-- A row of numbers of the call's own. -/
def ints (l : List Int) : List Value := l.map (fun x => .int .i64 x)
def OwnI (w : World) (B : Nat) (A : Option Addr) (c : Nat) (l : List Int) : Prop := w.ownsRow B 3 1 (.slice A l.length c) l.length (ints l)
theorem OwnI.nil (w : World) (B : Nat) : OwnI w B none 0 [] := World.ownsRow_nil w B 3 1
theorem OwnI.keep {w w' : World} {base : Nat} {A : Option Addr} {c : Nat} {l : List Int} (h : OwnI w base A c l) (hk : ∀ k, blk A = some k → w'.heap[k]? = w.heap[k]?) : OwnI w' base A c l :=
  own_far h fun k e => hk k ((blk_own A l.length c).symm.trans e)
theorem OwnI.lt {w : World} {base : Nat} {A : Option Addr} {c : Nat} {l : List Int} (h : OwnI w base A c l) : ∀ k, blk A = some k → base ≤ k ∧ k < w.heap.size := by
  intro k hk
  exact World.ownsRow.lt h k ((blk_own A l.length c).trans hk)
theorem OwnI.at' {w : World} {base : Nat} {A : Option Addr} {c : Nat} {l : List Int} (h : OwnI w base A c l) {k : Nat} (hk : k < l.length) : ∃ b, A = some ⟨b, 0, none⟩ ∧ b < w.heap.size ∧ w.cell? ⟨b, k, none⟩ = some (.int .i64 (l[k]?.getD 0)) := by
  rcases h.2 with ⟨hv, h0⟩ | ⟨b, cap, cur, hv, _, hg, _⟩
  · omega
  · injection hv with hA _ _
    subst hA
    refine ⟨b, rfl, (Array.getElem?_eq_some_iff.1 hg).1, ?_⟩
    have C := World.ownsRow.cells h (g := b) rfl k (.int .i64 (l[k]?.getD 0)) (by simp [ints, hk])
    rw [add_none, Nat.zero_add] at C
    exact C
theorem info3 : (Try.prog.info? 3).map (fun i => (i.zero, i.size, i.bytes)) = some (some (.int .i64 0), 1, 8) := by kernel_rfl
abbrev iob (x : Int) : Obj := .cells #[.int .i64 x] 3
theorem newi_own {w1 : World} {B0 : Nat} {Ac : Option Addr} {cc : Nat} {C : List Int} (h : OwnI w1 B0 Ac cc C) (t : Tm) (x : Int) : ((w1.alloc (tob t)).alloc (iob x)).ownsRow B0 3 1 (.slice Ac C.length cc) C.length (ints C) :=
  h.keep (w' := (w1.alloc (tob t)).alloc (iob x)) (fun k hk => (Below.heap_alloc _ _ k (by have := (h.lt k hk).2; simp; omega)).trans (Below.heap_alloc _ _ k (h.lt k hk).2))
theorem newi_cells (w1 : World) (t : Tm) (x : Int) : ∀ j u, (ints [x])[j]? = some u → ((w1.alloc (tob t)).alloc (iob x)).cell? ((⟨w1.heap.size + 1, 0, none⟩ : Addr).add j) = some u :=
  World.news_of_block (w := (w1.alloc (tob t)).alloc (iob x)) (by have := heap_alloc_new (w1.alloc (tob t)) (iob x); rw [World.size_alloc] at this; exact this)
theorem newi_size (w1 : World) (t : Tm) (x : Int) : ((w1.alloc (tob t)).alloc (iob x)).heap.size = w1.heap.size + 2 := by simp
theorem appi_own {w w1 w3 : World} {B0 : Nat} {Ac : Option Addr} {cc n b3 c3 : Nat} {C : List Int} {x : Int} {o o' : Obj} (hC : OwnI w1 B0 Ac cc C) (hb : Below B0 w w1) (hB : B0 ≤ w1.heap.size) (hg : ((w1.alloc o).alloc o').grownBy w3 (Value.slice Ac n cc).ownBlock) (hr : w3.ownsRow B0 3 1 (.slice (some ⟨b3, 0, none⟩) (C.length + 1) c3) (C.length + 1) (ints C ++ ints [x])) :
    OwnI w3 B0 (some ⟨b3, 0, none⟩) c3 (C ++ [x]) ∧ Below B0 w w3 := by
  have o1 : Off w1 w3 (blk Ac).toList := ((Off.refl w1 _).alloc o |>.alloc o').same (Off.of_grown hg (fun k e => by rw [blk_own] at e; simp [e]))
  refine ⟨?_, hb.trans (o1.below hB (fun k hk => (hC.lt k (by simpa using hk)).1))⟩
  have e : ints C ++ ints [x] = ints (C ++ [x]) := by simp [ints]
  have el : C.length + 1 = (C ++ [x]).length := by simp
  rw [e, el] at hr
  exact hr
theorem take_i {l : List Int} {k : Nat} (hk : k < l.length) : l.take (k + 1) = l.take k ++ [l[k]?.getD 0] := by
  rw [List.take_add_one]; simp [hk]
theorem ids_range {l : List Tm} {tag : Int} (h : ∀ t ∈ l, 1 ≤ t.id ∧ t.id ≤ 1000000) {k : Nat} (hk : k < (idsOf tag l).length) : 1 ≤ (idsOf tag l)[k]?.getD 0 ∧ (idsOf tag l)[k]?.getD 0 ≤ 1000000 := by
  have hm : (idsOf tag l)[k]?.getD 0 ∈ idsOf tag l := by
    rw [List.getElem?_eq_getElem hk]
    exact List.getElem_mem hk
  unfold idsOf at hm ⊢
  obtain ⟨t, ht, e⟩ := List.mem_map.1 hm
  have := h t (List.mem_filter.1 ht).1
  rw [← e]
  exact this

section
variable {w w' : World} {base q mb : Nat} {A : Option Addr} {c : Nat} {l S : List Tm} {last : Int}
set_option maxHeartbeats 4000000 in
theorem ctag_any (h : TQ w base q mb A c l S last) (tag : Int) : Calls Try.prog 19 #[.pointer (some ⟨q, 0, none⟩), .int .i64 tag] w fun e w' => ∃ n : Nat, e = .returned (.int .i64 n) ∧ Hid (n + (delTag S tag).length = S.length) ∧ Left w base q mb A c (delTag S tag) last w' := by
  have hlen : (l.length : Int) ≤ 2000 := h.qs.len
  have hc0 := h.qs.que.cell0
  have HT := Lib.hid h
  clear h
  obtain ⟨i0, hi0, hz0, hz1, hz2⟩ := info_parts info3
  have HI0 := Lib.hid hi0; have HZ0 := Lib.hid hz0; have HZ1 := Lib.hid hz1; have HZ2 := Lib.hid hz2
  clear hi0 hz0 hz1 hz2
  go_enter Try.func19, Try.ntmps19
  go_wp2
  go_loopg [5, 16] l.length (fun m s5 s16 wr => ∃ (k : Nat) (ids : List Int) (Ai : Option Addr) (ci : Nat), k ≤ l.length ∧ m = l.length - k ∧ s5 = .slice Ai ids.length ci ∧ s16 = .int .i64 (k : Int) ∧ (ids.length : Int) ≤ k ∧ Hid (ids = idsOf tag (l.take k)) ∧ Hid (OwnI wr w.heap.size Ai ci ids) ∧ Hid (Below w.heap.size w wr))
  case atStart => exact ⟨0, [], none, 0, by omega, rfl, rfl, rfl, by simp, Lib.hid (by simp [idsOf]), Lib.hid (OwnI.nil _ _), Lib.hid (Below.refl _ _)⟩
  case round =>
    obtain ⟨k, ids, Ai, ci, hk, rfl, rfl, rfl, hids, HE, HO, HB⟩ := hrel
    by_cases hkl : k < l.length
    · have hkl' : (k : Int) < l.length := by omega
      obtain ⟨b, hA, hbl, e1, e2, e3⟩ := (HT.out.qs.que.own.rt.below HB.out (Nat.le_refl _)).at' hkl
      subst hA
      obtain ⟨t, ht⟩ : ∃ t, g l k = t := ⟨_, rfl⟩
      rw [ht] at e1 e2 e3
      have hsz := HB.out.size
      have hbr : b < wr.heap.size := by omega
      by_cases htt : t.tag = tag
      · have hte : (t.tag == tag) = true := by simpa using htt
        have HE2 := Lib.hid (idsOf_yes (tag := tag) hkl (by rw [ht]; exact htt))
        rw [ht] at HE2
        have HOwn := Lib.hid (newi_own HO.out t t.id); have HNw := Lib.hid (newi_cells wr t t.id); have HSz := Lib.hid (newi_size wr t t.id)
        have HBs : Hid (w.heap.size ≤ ((wr.alloc (tob t)).alloc (iob t.id)).heap.size) := Lib.hid (by simp; omega)
        have HTt := Lib.hid ht
        clear ht htt
        go_wp2_with (first
          | (at_builtin; refine wpList_append_lies _ rfl (.tmp 24) (.tmp 27) 38 rfl w.heap.size 3 i0 _ 1 8 Try.underlying38 HI0.out HZ0.out HZ1.out HZ2.out rfl (by omega) (.slice Ai ids.length ci) ids.length (ints ids) rfl HOwn.out ⟨wr.heap.size + 1, 0, none⟩ 1 1 (ints [t.id]) rfl rfl HNw.out (by simp [ints, Value.oneCell']) (by omega) (by unfold maxLen; omega) (by omega) HBs.out (wr.heap.size + 2) HSz.out ?_; intro b3 c3 w3 hown3 hg3 hat3 hlt3; (have hk3 := appi_own HO.out HB.out hsz hg3 hown3); obtain ⟨hO3, hB3⟩ := hk3; have HO3 := Lib.hid hO3; have HB3 := Lib.hid hB3; clear hO3 hB3 hown3 hg3 hat3 hlt3))
        go_roundg (l.length - (k + 1))
        · exact ⟨k + 1, ids ++ [t.id], some ⟨b3, 0, none⟩, c3, by omega, rfl, by simp, by simp, by simp; omega, Lib.hid (by rw [HE2.out, HE.out]), HO3, HB3⟩
        · omega
      · have hte : (t.tag == tag) = false := by simpa using htt
        have HE2 := Lib.hid (idsOf_no (tag := tag) hkl (by rw [ht]; exact htt))
        clear ht htt
        go_wp2
        go_roundg (l.length - (k + 1))
        · exact ⟨k + 1, ids, Ai, ci, by omega, rfl, rfl, by simp, by omega, Lib.hid (by rw [HE2.out, HE.out]), Lib.hid (HO.out.keep (fun j hj => Below.heap_alloc _ _ j (HO.out.lt j hj).2)), Lib.hid (HB.out.alloc hsz _)⟩
        · omega
    · have hkl' : ¬ (k : Int) < l.length := by omega
      have HE2 : Hid (ids = idsOf tag l) := Lib.hid (by rw [HE.out, List.take_of_length_le (by omega)])
      have HT1 : Hid (TQ wr base q mb A c l S last) := Lib.hid (HT.out.step HB.out)
      have hil : (ids.length : Int) ≤ 2000 := by omega
      have HSz := Lib.hid HB.out.size
      have HW : Hid (∀ k ∈ bls q mb A, k < w.heap.size) := Lib.hid (fun k hk => (HT.out.qs.que.lo k hk).2)
      go_wp2
      go_loopg [32] ids.length (fun m s32 wq => ∃ (j : Nat) (lr : List Tm), j ≤ ids.length ∧ m = ids.length - j ∧ s32 = .int .i64 (j : Int) ∧ Hid (TQ wq base q mb A c lr (dels S (ids.take j)) last) ∧ Hid (OwnI wq w.heap.size Ai ci ids) ∧ Hid (Off w wq (bls q mb A)))
      case atStart => exact ⟨0, l, by omega, rfl, rfl, Lib.hid (by rw [List.take_zero, dels_nil]; exact HT1.out), HO, Lib.hid (Off.of_below HB.out)⟩
      case round =>
        obtain ⟨j, lr, hj, rfl, rfl, HTr, HOr, HFr⟩ := hrel
        by_cases hjl : j < ids.length
        · have hjl' : (j : Int) < ids.length := by omega
          obtain ⟨b, hA, hbl, e1⟩ := HOr.out.at' hjl
          have hrg := ids_range (tag := tag) HT.out.qs.ids (k := j) (by rw [← HE2.out]; exact hjl)
          rw [← HE2.out] at hrg
          have HD := Lib.hid (dels_snoc S (ids.take j) (ids[j]?.getD 0))
          rw [← take_i hjl] at HD
          generalize ids[j]?.getD 0 = x at e1 hrg HD
          subst hA
          have hrw : -9223372036854775808 ≤ x ∧ x ≤ 9223372036854775807 := by omega
          rcases hx : hasId (dels S (ids.take j)) x with _ | _
          · have HX := Lib.hid hx
            clear hx
            go_wp2_with ((with_reducible refine (cancel_no HTr.out x hrw HX.out).mono ?_); rintro e w3 ⟨rfl, rfl⟩)
            go_roundg (ids.length - (j + 1))
            · exact ⟨j + 1, lr, by omega, rfl, by simp, Lib.hid (by rw [HD.out, del_none HX.out]; exact HTr.out), HOr, HFr⟩
            · omega
          · have HX := Lib.hid hx
            clear hx
            go_wp2_with ((with_reducible refine (cancel_yes HTr.out x hrw HX.out).mono ?_); rintro e w3 ⟨rfl, l3, HT3, HF3⟩)
            go_roundg (ids.length - (j + 1))
            · exact ⟨j + 1, l3, by omega, rfl, by simp, Lib.hid (by rw [HD.out]; exact HT3.out), Lib.hid (HOr.out.keep (fun k hk => HF3.out.block k (HOr.out.lt k hk).2 (fun hm => by have h1 := HW.out k hm; have h2 := (HOr.out.lt k hk).1; omega))), Lib.hid (HFr.out.same HF3.out)⟩
            · omega
        · have hjl' : ¬ (j : Int) < ids.length := by omega
          go_wp2
          go_ret
          refine ⟨ids.length, rfl, Lib.hid ?_, lr, Lib.hid ?_, HFr⟩
          · rw [HE2.out]; exact ids_count HT.out.perm tag
          · have := HTr.out
            rw [List.take_of_length_le (by omega), HE2.out, dels_tag HT.out.perm HT.out.good tag] at this
            exact this
end
end Go.Proofs.Ytibiobcjnnoeeaa.Con
