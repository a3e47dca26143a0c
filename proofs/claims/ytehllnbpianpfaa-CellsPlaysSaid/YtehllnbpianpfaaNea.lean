/-
  The contract of the index's Near: the numbers of those that are near a tile, rising, whatever order the maps are ranged over in.
-/
import Derived.Test.YtehllnbpianpfaaRng
import Derived.Test.YtehllnbpianpfaaLay
import Derived.Shelf.RegionOpen
import Derived.Deep.RegionHeld3
import Derived.Shelf.Abstract
namespace Go.Proofs.Ytehllnbpianpfaa.Con
open Go.RowKit Cll Go.Maps Go.Shelf

theorem mown_far {V V' : World} {base : Nat} {A : Option Addr} {c : Nat} {l : List Int} (h : Mei.Own V base .i64 3 A c l) {q : Option Nat} (hg : V.grownBy V' q) (hq : ∀ k, Mei.blk A = some k → q ≠ some k) : Mei.Own V' base .i64 3 A c l :=
  Mei.own_far h (fun k hk => by
    have hk' := (Mei.blk_own A l.length c).symm.trans hk
    exact hg.block k (h.lt k hk').2 (fun e => hq k hk' e.symm))
theorem mown_step {V V' : World} {base : Nat} {A : Option Addr} {c : Nat} {l : List Int} (h : Mei.Own V base .i64 3 A c l) (hb : Below V.heap.size V V') : Mei.Own V' base .i64 3 A c l := h.below hb (Nat.le_refl _)
/-- A row is no iterator. -/
theorem mown_iter {V : World} {base : Nat} {A : Option Addr} {c : Nat} {l : List Int} (h : Mei.Own V base .i64 3 A c l) {rb : Nat} {m : Option Nat} {s cl : Nat} {se : Array Nat} (hr : V.heap[rb]? = some (.mapIter m s se cl)) : Mei.blk A ≠ some rb := by
  intro e
  rcases h.2 with ⟨hv, _⟩ | ⟨g, cap, cur, hv, _, hg, _⟩
  · injection hv with hA
    subst hA; cases e
  · injection hv with hA
    subst hA
    injection e with e
    have e' : g = rb := e
    subst e'
    rw [hg] at hr
    cases hr
/-- Both loops, and the row that is being made. -/
structure NI (w V : World) (N cb b rb : Nat) (Dc D : DataW Unit) (px py : Int) (left : Lit → Bool) (cnt : Nat) (left2 : Lit → Bool) (cnt2 : Nat) (A : Option Addr) (c : Nat) (ss : List Int) : Prop where
  o : Out w V N cb Dc px py left cnt
  i : V.ranges Try.prog 3 Rt b rb N D left2 cnt2
  own : Mei.Own V (w.heap.size + 2) .i64 3 A c ss
  rlo : w.heap.size + 2 ≤ rb
  blo : b < w.heap.size
  clo : cb < w.heap.size
section
variable {w V V' : World} {N cb b rb : Nat} {Dc D : DataW Unit} {px py : Int} {left left2 : Lit → Bool} {cnt cnt2 : Nat} {A : Option Addr} {c : Nat} {ss : List Int}
theorem NI.step (h : NI w V N cb b rb Dc D px py left cnt left2 cnt2 A c ss) (hb : Below V.heap.size V V') : NI w V' N cb b rb Dc D px py left cnt left2 cnt2 A c ss :=
  ⟨h.o.step hb, h.i.kept (grown_of hb) (by simp) (by simp), mown_step h.own hb, h.rlo, h.blo, h.clo⟩
theorem NI.next {left3 : Lit → Bool} {cnt3 : Nat} (h : NI w V N cb b rb Dc D px py left cnt left2 cnt2 A c ss) (hg : V.grownBy V' (some rb)) (hr : V'.ranges Try.prog 3 Rt b rb N D left3 cnt3) : NI w V' N cb b rb Dc D px py left cnt left3 cnt3 A c ss := by
  obtain ⟨m, s, se, cl, hi⟩ := iter_at h.i
  exact ⟨h.o.turn h.clo hg (fun k hk => by injection hk with hk; have := h.rlo; omega), hr, mown_far h.own hg (fun k hk e => mown_iter h.own hi (by rw [hk, e])), h.rlo, h.blo, h.clo⟩
theorem NI.app {A' : Option Addr} {c' : Nat} {ss' : List Int} (h : NI w V N cb b rb Dc D px py left cnt left2 cnt2 A c ss) (ho : Mei.Own V' (w.heap.size + 2) .i64 3 A' c' ss') (hs : Mei.Step V V' (Mei.blk A) A') : NI w V' N cb b rb Dc D px py left cnt left2 cnt2 A' c' ss' := by
  obtain ⟨m, s, se, cl, hi⟩ := iter_at h.i
  refine ⟨h.o.turn h.clo hs.grown (fun k hk => (h.own.lt k hk).1), h.i.kept hs.grown (fun e => ?_) (fun e => mown_iter h.own hi e.symm), ho, h.rlo, h.blo, h.clo⟩
  have := (h.own.lt b e.symm).1
  have := h.blo
  omega
end
/-- Who has come, while the units of a cell come. -/
def came (px py r : Int) (left left2 : Lit → Bool) (kl : Lit) (u : Un) : Bool := nr px py r u && (!left (ckU u) || ((ckU u).sameKey kl && !left2 (key u.id)))
section
variable {w : World} {S : Nat → Prop} {N xb hb cb : Nat} {Dh Dc : DataW Unit} {L : List Un}
theorem came_start {left : Lit → Bool} {kl : Lit} {px py r : Int} {D : DataW Unit} (hL : ∀ t ∈ L, ckU t = kl → Maps.has D (key t.id) = true) : ids L (came px py r left (Maps.has D) kl) = ids L (fun u => nr px py r u && !left (ckU u)) := by
  refine ids_congr fun t ht => ?_
  unfold came
  by_cases e : ckU t = kl
  · simp [hL t ht e]
  · simp [sameKey_ne e]
theorem came_end {left left2 : Lit → Bool} {kl : Lit} {px py r : Int} (hl : ∀ k, left2 k = false) : ids L (came px py r left left2 kl) = ids L (fun u => nr px py r u && !(left (ckU u) && !(ckU u).sameKey kl)) := by
  refine ids_congr fun t ht => ?_
  unfold came
  rw [hl]
  cases left (ckU t) <;> cases (ckU t).sameKey kl <;> simp
/-- A unit has come. -/
theorem came_step (hL : Cll.Good L) {left left2 : Lit → Bool} {kl : Lit} {px py r : Int} {t : Un} (ht : t ∈ L) (hk : ckU t = kl) (hlk : left kl = true) (hl2 : left2 (key t.id) = true) {ss : List Int} (h : ss.Perm (ids L (came px py r left left2 kl))) :
    (nr px py r t = false → ss.Perm (ids L (came px py r left (fun z => left2 z && !z.sameKey (key t.id)) kl))) ∧ (nr px py r t = true → (ss ++ [t.id]).Perm (ids L (came px py r left (fun z => left2 z && !z.sameKey (key t.id)) kl))) := by
  have hne : ∀ s ∈ L, s.id ≠ t.id → came px py r left (fun z => left2 z && !z.sameKey (key t.id)) kl s = came px py r left left2 kl s := by
    intro s hs hn
    unfold came
    simp only [left_ne (key_ne hn)]
  have hp : came px py r left left2 kl t = false := by unfold came; rw [hk, hlk, hl2]; simp
  constructor
  · intro hn
    rw [ids_congr (P := came px py r left (fun z => left2 z && !z.sameKey (key t.id)) kl) (Q := came px py r left left2 kl) (fun s hs => ?_)]
    · exact h
    · by_cases e : s.id = t.id
      · have := hL.one hs ht e
        subst this
        unfold came; rw [hn]; simp
      · exact hne s hs e
  · intro hy
    refine (h.append_right _).trans (ids_more hL.asc ht hp ?_ hne).symm
    unfold came
    simp only [hy, hk, WideAt.sameKey_self (show WideAt.IsKeyLit kl by rw [← hk]; exact ck_lit _ _), left_same (keyLit _)]
    simp
theorem IX.told (h : IX w S N xb hb cb Dh Dc L) {t : Un} (ht : t ∈ L) : Maps.has Dc (ckU t) = true := by
  obtain ⟨_, _, b, D, hl, _⟩ := h.home (lk_of h.good ht rfl)
  exact (look_some hl).1
theorem perm_len {ss : List Int} {P : Un → Bool} (h : ss.Perm (ids L P)) : ss.length ≤ L.length := by
  rw [h.length_eq]; exact ids_len L P
/-- A cell that is not near holds none that is. -/
theorem skip_cell {px py r c q : Int} {left : Lit → Bool} (hc : Sd c) (hq : Sd q) (h : IX w S N xb hb cb Dh Dc L) (hn : nearB px py (cut c px) (cut q py) r = false) : ids L (fun u => nr px py r u && !left (ckU u)) = ids L (fun u => nr px py r u && !(left (ckU u) && !(ckU u).sameKey (ck c q))) := by
  refine ids_congr fun t ht => ?_
  have ho := h.good.ok t ht
  by_cases e : ckU t = ck c q
  · obtain ⟨e1, e2⟩ := ck_inj (sd_div ho.2.1).fits (sd_div ho.2.2).fits hc.fits hq.fits e
    have : nr px py r t = false := near_cut (by omega) (by omega) (by omega) (by omega) hn
    simp [this]
  · rw [left_ne e]
set_option maxHeartbeats 8000000 in
theorem near_ix (h : IX w S N xb hb cb Dh Dc L) (px py r : Int) (f1 : Fits px) (f2 : Fits py) (f3 : Fits r) : Calls Try.prog 17 #[.pointer (some ⟨xb, 0, none⟩), pv px py, .int .i64 r] w fun e w' => ∃ A c l, e = .returned (.slice A (List.length l) c) ∧ Hid (l = ids L (nr px py r)) ∧ Hid (Mei.Rd .i64 w' w'.heap.size A l) ∧ Hid (Below w.heap.size w w') := by
  have hb1 : Below w.heap.size w (w.alloc (.cells #[.int .i64 px, .int .i64 py] 32)) := (Below.refl _ w).alloc (Nat.le_refl _) _
  have h1 := h.step hb1
  have hs1 : (w.alloc (.cells #[.int .i64 px, .int .i64 py] 32)).heap.size = w.heap.size + 1 := by simp
  have hbx := heap_alloc_new w (.cells #[.int .i64 px, .int .i64 py] 32)
  have hc1 := h1.cell1
  have hown1 := h1.cel
  have hxl := h.lt
  have HH := Lib.hid h; have HB1 := Lib.hid hb1; have HS1 := Lib.hid hs1; have HBX := Lib.hid hbx
  have HKy := Lib.hid h.keys
  have hcb := h.low cb h.sc
  clear h h1 hb1 hs1 hbx
  go_enter Try.func17, Try.ntmps17
  go_wp2_with (at_range; refine wpList_range_own _ rfl _ 50 rfl 54 55 kCell Try.underlying50 Rm cb N Dc rfl hown1 ?_; intro w0 hrg0 hg0 hs0)
  go_frame
  rw [HS1.out] at hrg0 ⊢
  have HO0 : Hid (Out w w0 N cb Dc px py (Maps.has Dc) (Maps.size Dc)) := Lib.hid ⟨hrg0, HB1.out.grown hg0 HB1.out.size (fun k hk => by cases hk), (hg0.block _ (by have := HS1.out; omega) (by simp)).trans HBX.out⟩
  clear hrg0 hg0 hs0 hown1 hc1
  go_loopw [7] (fun s7 wr => ∃ (left : Lit → Bool) (cnt : Nat) (A : Option Addr) (c : Nat) (ss : List Int), s7 = .slice A ss.length c ∧ Hid (Out w wr N cb Dc px py left cnt) ∧ Hid (Mei.Own wr (w.heap.size + 2) .i64 3 A c ss) ∧ Hid (ss.Perm (ids L (fun u => nr px py r u && !left (ckU u))))) (fun _ wr => wr.rangeLeft cb (w.heap.size + 1))
  case atStart =>
    refine ⟨_, _, none, 0, [], rfl, HO0, Lib.hid (World.ownsRow_nil _ _ _ _), Lib.hid ?_⟩
    rw [ids_none (fun t ht => by simp [HH.out.told ht])]
  case round =>
    obtain ⟨left, cnt, A, c, ss, rfl, HO, HW, HP⟩ := hrel
    have hrg := HO.out.rg
    go_wp2_with (first | (at_next; refine next_cell _ rfl _ rfl HKy.out rfl hrg ?_ ?_) | go_in)
    · intro hl0
      have hp : ss.Perm (ids L (nr px py r)) := by
        have := HP.out
        rwa [ids_congr (P := fun u => nr px py r u && !left (ckU u)) (Q := nr px py r) (fun t _ => by simp [hl0])] at this
      have hlen : (ss.length : Int) ≤ 1000000 := by have := perm_len hp; have := HH.out.len; have := HH.out.cap; omega
      have HSo := Lib.hid (sort_own HW.out hlen)
      have hso := sorted_ids HH.out.good.asc hp
      have HSd := Lib.hid hso
      have hsl : (ss.mergeSort (fun x y => decide (x ≤ y))).length = ss.length := List.length_mergeSort _
      have HSl := Lib.hid hsl
      clear hp hlen hso hsl
      go_wp2_with ((with_reducible refine HSo.out.mono ?_); rintro e w9 ⟨rfl, l, hl, hown9, hg9⟩; have HL9 := Lib.hid hl; have HW9 := Lib.hid hown9; have HG9 := Lib.hid hg9; clear hl hown9 hg9)
      go_ret
      have e1 : l = ids L (nr px py r) := HL9.out.trans HSd.out
      have e2 : l.length = ss.length := by rw [HL9.out]; exact HSl.out
      refine ⟨A, c, l, by rw [e2]; rfl, Lib.hid e1, Lib.hid (Mei.Rd.of_own HW9.out), Lib.hid (HO.out.bel.grown HG9.out HO.out.bel.size (fun k hk => by have := (HW.out.lt k hk).1; omega))⟩
    · intro kc kr b w2 cnt2 hkc hkr hlk hlook hrg2 hlt hg2 hs2 hen
      have HO2 : Hid (Out w w2 N cb Dc px py _ cnt2) := Lib.hid (HO.out.next hg2 hrg2)
      have HW2 : Hid (Mei.Own w2 (w.heap.size + 2) .i64 3 A c ss) := Lib.hid (mown_far HW.out hg2 (fun k hk => by have := (HW.out.lt k hk).1; intro e; injection e with e; omega))
      have hrg2l := hrg.left_eq
      clear hs2 hg2 hrg2
      have hk0 := heap_alloc_new w2 (.cells #[.int .i64 kc, .int .i64 kr] 54)
      have hbA : Below w2.heap.size w2 (w2.alloc (.cells #[.int .i64 kc, .int .i64 kr] 54)) := (Below.refl _ _).alloc (Nat.le_refl _) _
      have HO3 := Lib.hid (HO2.out.step hbA)
      have HW3 := Lib.hid (mown_step HW2.out hbA)
      obtain ⟨nx, hnx⟩ : ∃ nx, cut kc px = nx := ⟨_, rfl⟩
      obtain ⟨ny, hny⟩ : ∃ ny, cut kr py = ny := ⟨_, rfl⟩
      obtain ⟨nb, hnb⟩ : ∃ nb, nearB px py nx ny r = nb := ⟨_, rfl⟩
      have fx : Fits nx := by have := cut_fits (n := px) hkc.1 hkc.2; rw [hnx] at this; unfold Fits; omega
      have fy : Fits ny := by have := cut_fits (n := py) hkr.1 hkr.2; rw [hny] at this; unfold Fits; omega
      have HN1 : Hid (∀ V', Calls Try.prog 24 #[pv kc kr, pv px py] V' fun e w' => e = .returned (pv nx ny) ∧ Below V'.heap.size V' w') := Lib.hid (fun V' => by rw [← hnx, ← hny]; exact nearest_any kc kr px py V' hkc hkr)
      have HN2 : Hid (∀ V', Calls Try.prog 21 #[pv px py, pv nx ny, .int .i64 r] V' fun e w' => e = .returned (.bool nb) ∧ Below V'.heap.size V' w') := Lib.hid (fun V' => by rw [← hnb]; exact near_any px py nx ny r V' f1 f2 fx fy f3)
      have HSk : Hid (nb = false → ids L (fun u => nr px py r u && !left (ckU u)) = ids L (fun u => nr px py r u && !(left (ckU u) && !(ckU u).sameKey (ck kc kr)))) := Lib.hid (fun hf => skip_cell hkc hkr HH.out (by rw [hnx, hny, hnb, hf]))
      have hlast := hrg2l
      have HIn : Hid (∃ D, In w S N hb cb b D L kc kr) := Lib.hid (by
        rcases HH.out.inn kc kr hkc hkr with ⟨e, _⟩ | ⟨b', D, e, hI⟩
        · rw [hlook] at e; cases e
        · rw [hlook] at e
          injection e with e
          rw [bl_inj e]
          exact ⟨D, hI⟩)
      clear hnx hny hnb fx fy hbA HO2 HW2 HO HW hrg hrg2l
      go_wp2
      generalize w2.alloc (.cells #[.int .i64 kc, .int .i64 kr] 54) = V at *
      generalize w2.heap.size = hB at *
      have HC : Hid (∀ wz, Below V.heap.size V wz → wz.cell? ⟨w.heap.size, 0, none⟩ = some (.int .i64 px) ∧ wz.cell? ⟨w.heap.size, 1, none⟩ = some (.int .i64 py) ∧ wz.cell? ⟨hB, 0, none⟩ = some (.int .i64 kc) ∧ wz.cell? ⟨hB, 1, none⟩ = some (.int .i64 kr)) := Lib.hid (fun wz hz => by
        have a := (hz.block _ (by have := HO3.out.lt; omega)).trans HO3.out.box
        have b := (hz.block _ (Array.getElem?_eq_some_iff.1 hk0).1).trans hk0
        exact ⟨(cell_of_row wz _ 0 _ 32 (0, 0) a).trans rfl, (cell_of_row wz _ 1 _ 32 (0, 0) a).trans rfl, (cell_of_row wz _ 0 _ 54 (0, 0) b).trans rfl, (cell_of_row wz _ 1 _ 54 (0, 0) b).trans rfl⟩)
      clear hk0 hen
      have hS0 : Below V.heap.size V V.drew := (Below.refl _ _).drew
      refine wp_region_noPanic ?_
      refine wp_region_held_drew (S := fun w' => Below V.heap.size V w') (by kernel_rfl) hS0 (fun _ => ?_)
      refine wpAnyH_take (i := 0) (oi := ⟨some 22, Op.load 32 (Operand.tmp 4), 32, _, _, none⟩) (v := ?va0) rfl (by kernel_rfl) (by kernel_rfl) (by kernel_rfl) (fun _ _ _ h => h) (Or.inl ⟨by rfl, ?ha0⟩) hS0 ?ra0
      case ha0 => (intro wz hSw; obtain ⟨c0, c1, k0, k1⟩ := HC.out wz hSw; go_simp <;> with_reducible rfl)
      (try simp only [Act.put, List.setIfInBounds_toArray, List.set_cons_zero, List.set_cons_succ])
      refine wpAnyH_take (i := 1) (oi := ⟨some 23, Op.load 54 (Operand.tmp 8), 54, _, _, none⟩) (v := ?va1) rfl (by kernel_rfl) (by kernel_rfl) (by kernel_rfl) (fun _ _ _ h => h) (Or.inl ⟨by rfl, ?ha1⟩) hS0 ?ra1
      case ha1 => (intro wz hSw; obtain ⟨c0, c1, k0, k1⟩ := HC.out wz hSw; go_simp <;> with_reducible rfl)
      (try simp only [Act.put, List.setIfInBounds_toArray, List.set_cons_zero, List.set_cons_succ])
      refine wpAnyH_take (i := 2) (oi := ⟨some 24, Op.load 32 (Operand.tmp 4), 32, _, _, none⟩) (v := ?va2) rfl (by kernel_rfl) (by kernel_rfl) (by kernel_rfl) (fun _ _ _ h => h) (Or.inl ⟨by rfl, ?ha2⟩) hS0 ?ra2
      case ha2 => (intro wz hSw; obtain ⟨c0, c1, k0, k1⟩ := HC.out wz hSw; go_simp <;> with_reducible rfl)
      (try simp only [Act.put, List.setIfInBounds_toArray, List.set_cons_zero, List.set_cons_succ])
      refine wpAnyH_take (i := 4) (oi := ⟨some 26, Op.move (Operand.tmp 2), 3, _, _, none⟩) (v := ?va4) rfl (by kernel_rfl) (by kernel_rfl) (by kernel_rfl) (fun _ _ _ h => h) (Or.inl ⟨by rfl, ?ha4⟩) hS0 ?ra4
      case ha4 => (intro wz hSw; go_simp <;> with_reducible rfl)
      (try simp only [Act.put, List.setIfInBounds_toArray, List.set_cons_zero, List.set_cons_succ])
      refine wpAnyH_ready (rs := [3]) (by kernel_rfl) (by simp) ?_
      refine AllReadyH.cons (o := ⟨some 25, Op.call { callee := Callee.value (Operand.func 24), args := #[Operand.tmp 23, Operand.tmp 24], argTypes := #[54, 32] }, 32, _, _, none⟩) rfl (fun K hK => ?_) AllReadyH.nil
      go_simp
      (with_reducible refine (HN1.out _).mono ?_); rintro e v1 ⟨rfl, hB1⟩; have hS1 := hS0.trans (hB1.mono hS0.size)
      refine hK.out _ _ hS1 (fun _ => ?_)
      clear hK K
      (try simp only [Act.put, List.setIfInBounds_toArray, List.set_cons_zero, List.set_cons_succ])
      refine wpAnyH_ready (rs := [5]) (by kernel_rfl) (by simp) ?_
      refine AllReadyH.cons (o := ⟨some 27, Op.call { callee := Callee.value (Operand.func 21), args := #[Operand.tmp 22, Operand.tmp 25, Operand.tmp 26], argTypes := #[32, 32, 3] }, 4, _, _, none⟩) rfl (fun K hK => ?_) AllReadyH.nil
      go_simp
      (with_reducible refine (HN2.out _).mono ?_); rintro e v2 ⟨rfl, hB2⟩; have hS2 := hS1.trans (hB2.mono hS1.size)
      refine hK.out _ _ hS2 (fun _ => ?_)
      clear hK K
      (try simp only [Act.put, List.setIfInBounds_toArray, List.set_cons_zero, List.set_cons_succ])
      refine wpAnyH_take (i := 6) (oi := ⟨some 28, Op.unOp UnOp.not 4 (Operand.tmp 27), 4, _, _, none⟩) (v := ?va6) rfl (by kernel_rfl) (by kernel_rfl) (by kernel_rfl) (fun _ _ _ h => h) (Or.inl ⟨by rfl, ?ha6⟩) hS2 ?ra6
      case ha6 => (intro wz hSw; go_simp <;> with_reducible rfl)
      (try simp only [Act.put, List.setIfInBounds_toArray, List.set_cons_zero, List.set_cons_succ])
      refine wpAnyH_done (by kernel_rfl) ?_ _
      refine NoPanic.normal ?_
      have HV := Lib.hid hS2
      generalize hv9 : v2 = V2 at HV ⊢
      clear hv9
      have HO4 := Lib.hid (HO3.out.step HV.out)
      have HW4 := Lib.hid (mown_step HW3.out HV.out)
      clear HO3 HW3 HC
      cases nb with
      | false =>
        go_wp2
        go_roundw
        case rel =>
          refine ⟨_, _, A, c, ss, rfl, HO4, HW4, Lib.hid ?_⟩
          rw [← HSk.out rfl]
          exact HP.out
        case measure =>
          rw [HO4.out.rg.left_eq, hlast]; exact hlt
      | true =>
        obtain ⟨D, hI⟩ := HIn.out
        have hlo := HH.out.low b hI.s
        have hownI := own_keep hI.own (HO4.out.bel.block b hlo)
        have HAt := Lib.hid hI.at'
        go_wp2_with (at_range; refine wpList_range_own _ rfl _ 55 rfl 3 32 kInt Try.underlying55 Rt b N D rfl hownI ?_; intro w5 hrg5 hg5 hs5)
        go_frame
        have hrb : w.heap.size + 2 ≤ V2.heap.size := HO4.out.lt
        have HNI : Hid (NI w w5 N cb b V2.heap.size Dc D px py _ cnt2 _ _ A c ss) := Lib.hid ⟨HO4.out.turn hcb hg5 (fun k hk => by cases hk), hrg5, mown_far HW4.out hg5 (fun k hk e => by cases e), hrb, hlo, hcb⟩
        clear hrg5 hg5 hs5 hownI HO4 HW4 HV
        generalize V2.heap.size = rb at *
        have HPs : Hid (ss.Perm (ids L (came px py r left (Maps.has D) (ck kc kr)))) := Lib.hid (by
          rw [came_start (fun t ht e => ?_)]
          · exact HP.out
          · have ho := HH.out.good.ok t ht
            obtain ⟨e1, e2⟩ := ck_inj (sd_div ho.2.1).fits (sd_div ho.2.2).fits hkc.fits hkr.fits e
            have := HAt.out t.id
            rw [lk_of HH.out.good ht rfl] at this
            simp [e1, e2] at this
            exact (look_some this).1)
        go_loopw [7] (fun s7 wq => ∃ (left2 : Lit → Bool) (cnt3 : Nat) (A : Option Addr) (c : Nat) (ss : List Int), s7 = .slice A ss.length c ∧ Hid (NI w wq N cb b rb Dc D px py (fun z => left z && !z.sameKey (ck kc kr)) cnt2 left2 cnt3 A c ss) ∧ Hid (ss.Perm (ids L (came px py r left left2 (ck kc kr))))) (fun _ wq => wq.rangeLeft b rb)
        case atStart => exact ⟨_, _, A, c, ss, rfl, HNI, HPs⟩
        case round =>
          clear HNI HPs HP
          obtain ⟨left2, cnt3, A, c, ss, rfl, HNI, HP⟩ := hrel
          have hrgI := HNI.out.i
          go_wp2_with (first | (at_next; refine next_unit _ rfl _ rfl HAt.out rfl hrgI ?_ ?_) | go_in)
          · intro hl0
            go_wp2
            go_roundw
            case rel => exact ⟨_, _, A, c, ss, rfl, Lib.hid HNI.out.o, HNI.out.own, Lib.hid (by rw [← came_end hl0]; exact HP.out)⟩
            case measure => rw [HNI.out.o.rg.left_eq, hlast]; exact hlt
          · intro t w6 cnt6 htL htx hty hlk2 hrg6 hlt6 hg6 hs6 hen6
            have hNI6 := HNI.out.next hg6 hrg6
            have hlast3 := hrgI.left_eq
            have hbA : Below w6.heap.size w6 (w6.alloc (.cells #[.int .i64 t.x, .int .i64 t.y] 32)) := (Below.refl _ _).alloc (Nat.le_refl _) _
            have HNI7 := Lib.hid (hNI6.step hbA)
            have ho := HH.out.good.ok t htL
            have ftx : Fits t.x := by have := ho.2.1; unfold Fits; omega
            have fty : Fits t.y := by have := ho.2.2; unfold Fits; omega
            obtain ⟨HPn, HPy⟩ := came_step HH.out.good htL (show ckU t = ck kc kr by unfold ckU; rw [htx, hty]) hlk hlk2 HP.out
            obtain ⟨nb, hnb⟩ : ∃ nb, nr px py r t = nb := ⟨_, rfl⟩
            rw [hnb] at HPn HPy
            have HPn := Lib.hid HPn; have HPy := Lib.hid HPy
            have HN3 : Hid (∀ V', Calls Try.prog 21 #[pv px py, pv t.x t.y, .int .i64 r] V' fun e w' => e = .returned (.bool nb) ∧ Below V'.heap.size V' w') := Lib.hid (fun V' => by rw [← hnb]; exact near_any px py t.x t.y r V' f1 f2 ftx fty f3)
            have c0 := HNI7.out.o.c0
            have c1 := HNI7.out.o.c1
            have hbxl : w.heap.size < w6.heap.size := by have := hNI6.o.lt; omega
            have hln : (ss.length : Int) ≤ 100000 := by have := perm_len HP.out; have := HH.out.len; have := HH.out.cap; omega
            have hbse : w.heap.size + 2 ≤ w6.heap.size := hNI6.o.lt
            clear hrg6 hg6 hs6 hNI6 hbA HNI hrgI HP hnb ho
            generalize t.x = tx at *
            generalize t.y = ty at *
            generalize t.id = ti at *
            cases nb with
            | false =>
              have HPf := Lib.hid (HPn.out rfl)
              clear HPn HPy
              go_wp2_with ((with_reducible refine (HN3.out _).mono ?_); rintro e w8 ⟨rfl, hB8⟩; have HNI8 := Lib.hid (HNI7.out.step hB8); clear hB8)
              go_roundw
              case rel => exact ⟨_, _, _, _, _, _, _, _, _, _, _, _, _, _, _, _, ⟨_, cnt6, A, c, ss, rfl, HNI8, HPf⟩, rfl⟩
              case measure => rw [HNI8.out.i.left_eq, hlast3]; exact hlt6
            | true =>
              have HPt := Lib.hid (HPy.out rfl)
              clear HPn HPy
              go_wp2_with (first
                | ((with_reducible refine (HN3.out _).mono ?_); rintro e w8 ⟨rfl, hB8⟩; have HNI8 := Lib.hid (HNI7.out.step hB8); have hbs8 : w.heap.size + 2 ≤ w8.heap.size := (HNI8.out.o.lt); clear hB8)
                | (at_builtin; refine Mei.wpList_app (K := .i64) (t := 40) (e := 3) Try.underlying40 Mei.int_info rfl (by omega) rfl (.tmp 40) (.tmp 42) rfl (w.heap.size + 2) (w8.heap.size + 1) A c ss [ti] _ _ rfl rfl (HNI8.out.own.alloc _) (Mei.rd_new _ _ _ _ rfl) (by simp; omega) (by simp; omega) ?_; intro A2 c2 w9 lm HL HO9 HS9))
              go_roundw
              case rel => exact ⟨_, _, _, _, _, _, _, _, _, _, _, _, _, _, _, _, ⟨_, cnt6, A2, c2, lm, rfl, Lib.hid ((HNI8.out.step ((Below.refl _ _).alloc (Nat.le_refl _) _)).app HO9.out HS9.out), Lib.hid (by rw [HL.out]; exact HPt.out)⟩, rfl⟩
              case measure => rw [((HNI8.out.step ((Below.refl _ _).alloc (Nat.le_refl _) _)).app HO9.out HS9.out).i.left_eq, hlast3]; exact hlt6
end
end Go.Proofs.Ytehllnbpianpfaa.Con
