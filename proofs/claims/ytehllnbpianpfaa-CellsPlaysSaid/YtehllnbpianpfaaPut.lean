/-
  The contract of the index's Put: the unit is at its tile now, and nowhere else.
-/
import Derived.Test.YtehllnbpianpfaaSmc
namespace Go.Proofs.Ytehllnbpianpfaa.Con
open Go.RowKit Cll Go.Maps

/-- A cell that was not told gets a map without a unit. -/
theorem founded {w w' : World} {S : Nat → Prop} {N xb hb cb : Nat} {Dh Dc : DataW Unit} {L : List Un} {c r : Int} {ib : Nat} (h : IX w S N xb hb cb Dh Dc L) (hc : Sd c) (hr : Sd r) (hl : look Dc (ck c r) = none) (hs : w.heap.size ≤ ib) (hs' : ib < w'.heap.size)
    (hcel : w'.ownsMap Try.prog 54 Rm cb (N + 1) (Dc.put (ck c r) (bl ib))) (hin : w'.ownsMap Try.prog 3 Rt ib 0 (.map [])) (ho : ∀ b, S b → b ≠ cb → w'.heap[b]? = w.heap[b]?) (hN : (N : Int) < 100000) :
    IX w' (fun b => S b ∨ b = ib) (N + 1) xb hb cb Dh (Dc.put (ck c r) (bl ib)) L := by
  have hn : ∀ t ∈ L, ¬ (t.x / 16 = c ∧ t.y / 16 = r) := by
    rcases h.inn c r hc hr with ⟨_, h2⟩ | ⟨b, D, h1, _⟩
    · exact h2
    · rw [hl] at h1; cases h1
  have im := h.cel.isMap
  have hbl := h.low
  refine ⟨(ho xb h.sx h.x_ne.2).trans h.st, .inl h.sx, .inl h.sh, .inl h.sc, h.ne, (own_keep h.hom (ho hb h.sh h.ne)).mono (by omega), hcel, h.homv, ?_, ?_, ?_, h.good, by have := h.len; omega, ?_, by omega⟩
  · intro kl d hk
    by_cases e : kl = ck c r
    · exact ⟨c, r, e, hc, hr⟩
    · rw [look_put_ne e] at hk; exact h.keys kl d hk
  · intro c' r' hc' hr'
    by_cases e : ck c' r' = ck c r
    · obtain ⟨rfl, rfl⟩ := ck_inj hc'.fits hr'.fits hc.fits hr.fits e
      refine .inr ⟨ib, .map [], look_put im (ck_lit _ _) _, ⟨.inr rfl, fun e => by have := h.low hb h.sh; omega, fun e => by have := h.low cb h.sc; omega, hin.mono (by omega), fun k => ?_⟩⟩
      cases hk : lk L k with
      | none => rfl
      | some t => simp [hn t (lk_some hk).1, look_empty]
    · rcases h.inn c' r' hc' hr' with ⟨h1, h2⟩ | ⟨b, D, h1, h2⟩
      · exact .inl ⟨(look_put_ne e _).trans h1, h2⟩
      · exact .inr ⟨b, D, (look_put_ne e _).trans h1, ⟨.inl h2.s, h2.nh, h2.nc, (own_keep h2.own (ho b h2.s h2.nc)).mono (by omega), h2.at'⟩⟩
  · intro k1 k2 b h1 h2
    have hlt : ∀ k, k ≠ ck c r → look (Dc.put (ck c r) (bl ib)) k = some (bl b) → b < w.heap.size ∧ look Dc k = some (bl b) := by
      intro k hk e
      rw [look_put_ne hk] at e
      refine ⟨?_, e⟩
      obtain ⟨c', r', rfl, hc', hr'⟩ := h.keys k _ e
      rcases h.inn c' r' hc' hr' with ⟨e1, _⟩ | ⟨b', D, e1, e2⟩
      · rw [e] at e1; cases e1
      · rw [e] at e1
        injection e1 with e1
        rw [bl_inj e1]
        exact h.low _ e2.s
    have hib : ∀ k, k = ck c r → look (Dc.put (ck c r) (bl ib)) k = some (bl b) → b = ib := by
      intro k hk e
      subst hk
      rw [look_put im (ck_lit _ _)] at e
      injection e with e
      exact (bl_inj e).symm
    by_cases e1 : k1 = ck c r <;> by_cases e2 : k2 = ck c r
    · rw [e1, e2]
    · have a := hib k1 e1 h1; have d := hlt k2 e2 h2; omega
    · have a := hib k2 e2 h2; have d := hlt k1 e1 h1; omega
    · exact h.apart k1 k2 b (hlt k1 e1 h1).2 (hlt k2 e2 h2).2
  · intro b hb'
    rcases hb' with hb' | rfl
    · have := h.low b hb'
      by_cases e : b = cb
      · subst e
        obtain ⟨es, cl, k, _⟩ := hcel
        exact (Array.getElem?_eq_some_iff.1 k).1
      · omega
    · exact hs'

/-- A unit that was nowhere, or in that very cell, is put there. -/
theorem placed {w w' : World} {S : Nat → Prop} {N xb hb cb ib : Nat} {Dh Dc D : DataW Unit} {L : List Un} {c r : Int} {t : Un} (h : IX w S N xb hb cb Dh Dc L) (hc : t.x / 16 = c) (hr : t.y / 16 = r) (ht : Okay t) (hl : look Dc (ck c r) = some (bl ib)) (hI : In w S N hb cb ib D L c r)
    (hw : ∀ s, lk L t.id = some s → s.x / 16 = c ∧ s.y / 16 = r) (hs : w.heap.size ≤ w'.heap.size)
    (hh : w'.ownsMap Try.prog 3 Rt hb (N + 1) (Dh.put (key t.id) (td c r))) (hi : w'.ownsMap Try.prog 3 Rt ib (N + 1) (D.put (key t.id) (td t.x t.y)))
    (ho : ∀ b, S b → b ≠ hb → b ≠ ib → w'.heap[b]? = w.heap[b]?) (hN : (N : Int) < 100000) :
    IX w' S (N + 1) xb hb cb (Dh.put (key t.id) (td c r)) Dc (ins (del L t.id) t) := by
  have hng : hasId (del L t.id) t.id = false := by
    rw [Bool.eq_false_iff]
    intro e
    obtain ⟨s, hs, e⟩ := hasId_iff.1 e
    exact (mem_del.1 hs).2 e
  have hgd := h.good.del t.id
  have hlk : ∀ k, lk (ins (del L t.id) t) k = if k = t.id then some t else lk L k := by
    intro k
    rw [lk_ins hgd ht hng, lk_del h.good]
    by_cases e : k = t.id
    · simp [e]
    · simp [e]
  have hat : ∀ k, look (D.put (key t.id) (td t.x t.y)) (key k) = (lk (ins (del L t.id) t) k).bind (fun s => if s.x / 16 = c ∧ s.y / 16 = r then some (td s.x s.y) else none) := by
    intro k
    rw [hlk]
    by_cases e : k = t.id
    · subst e
      rw [look_put hI.own.isMap (keyLit _), if_pos rfl]
      simp [hc, hr]
    · rw [look_put_ne (key_ne e), if_neg e, hI.at']
  have hcx := sd_div ht.2.1
  have hry := sd_div ht.2.2
  rw [hc] at hcx; rw [hr] at hry
  refine ⟨(ho xb h.sx h.x_ne.1 (Ne.symm (hI.x_ne h))).trans h.st, h.sx, h.sh, h.sc, h.ne, hh, (own_keep h.cel (ho cb h.sc (Ne.symm h.ne) (Ne.symm hI.nc))).mono (by omega), ?_, h.keys, ?_, h.apart, hgd.ins ht hng, ?_, fun b hb => Nat.lt_of_lt_of_le (h.low b hb) hs, by omega⟩
  · intro k
    rw [hlk]
    by_cases e : k = t.id
    · subst e
      rw [look_put h.hom.isMap (keyLit _), if_pos rfl]
      simp [hc, hr]
    · rw [look_put_ne (key_ne e), if_neg e, h.homv]
  · intro c' r' hc' hr'
    by_cases e : ck c' r' = ck c r
    · obtain ⟨rfl, rfl⟩ := ck_inj hc'.fits hr'.fits hcx.fits hry.fits e
      exact .inr ⟨ib, _, hl, ⟨hI.s, hI.nh, hI.nc, hi, hat⟩⟩
    · have hne : ¬ (c = c' ∧ r = r') := by rintro ⟨rfl, rfl⟩; exact e rfl
      rcases h.inn c' r' hc' hr' with ⟨h1, h2⟩ | ⟨b, D', h1, h2⟩
      · refine .inl ⟨h1, fun s hs => ?_⟩
        rcases (mem_ins hng).1 hs with rfl | hs
        · rw [hc, hr]; exact hne
        · exact h2 s (mem_del.1 hs).1
      · refine .inr ⟨b, D', h1, ⟨h2.s, h2.nh, h2.nc, (own_keep h2.own (ho b h2.s h2.nh (fun eb => e (h.apart _ _ ib (by rw [h1, eb]) hl)))).mono (by omega), fun k => ?_⟩⟩
        rw [hlk, h2.at']
        by_cases ek : k = t.id
        · subst ek
          rw [if_pos rfl]
          have e2 : ¬ (t.x / 16 = c' ∧ t.y / 16 = r') := by rw [hc, hr]; exact hne
          cases hk : lk L t.id with
          | none => simp [e2]
          | some s =>
            obtain ⟨a1, a2⟩ := hw s hk
            have e3 : ¬ (s.x / 16 = c' ∧ s.y / 16 = r') := by rw [a1, a2]; exact hne
            simp [e2, e3]
        · rw [if_neg ek]
  · have := ins_len (del L t.id) t
    have := del_len L t.id
    have := h.len
    omega

/-- What Put leaves. -/
def PLeft (w : World) (S : Nat → Prop) (N xb : Nat) (L' : List Un) (w' : World) : Prop := ∃ S', Hid (IXe w' S' (N + 2) xb L') ∧ Hid (OffP w w' S) ∧ Hid (∀ b, S' b → S b ∨ (w.heap.size ≤ b ∧ b < w'.heap.size))
theorem neq_pair (a b c d : Int) (e : Bool) (he : decide (¬ (a = c ∧ b = d)) = e) (V : World) : (binOp .neq 54 (pv a b) (pv c d)).run Try.prog V = .ok (.bool e) V := by
  subst he
  by_cases h1 : a = c <;> by_cases h2 : b = d <;> simp [go_sem, Try.underlying54, h1, h2]
theorem map_nil (V : World) : (binOp .eql 55 (.map none) (.map none)).run Try.prog V = .ok (.bool true) V := by kernel_rfl
theorem map_some (b : Nat) (V : World) : (binOp .eql 55 (.map (some b)) (.map none)).run Try.prog V = .ok (.bool false) V := by kernel_rfl
section
variable {w : World} {S : Nat → Prop} {N xb : Nat} {L : List Un}
set_option maxHeartbeats 4000000 in
theorem put_off (xb : Nat) (id x y : Int) (w : World) (hn : (onB x && onB y) = false) : Calls Try.prog 8 #[.pointer (some ⟨xb, 0, none⟩), .int .i64 id, pv x y] w fun e w' => e = .returned (.bool false) ∧ Below w.heap.size w w' := by
  cases hx : onB x with
  | false =>
    clear hn
    go_enter Try.func8, Try.ntmps8
    go_wp2_with ((with_reducible refine (side_any x _).mono ?_); rintro e w' ⟨rfl, rfl⟩; rw [hx])
    go_ret
    exact ⟨rfl, (Below.refl _ w).alloc (Nat.le_refl _) _⟩
  | true =>
    have hy : onB y = false := by rw [hx] at hn; exact hn
    clear hn
    go_enter Try.func8, Try.ntmps8
    go_wp2_with (first
      | ((with_reducible refine (side_any x _).mono ?_); rintro e w' ⟨rfl, rfl⟩; rw [hx]; clear hx)
      | ((with_reducible refine (side_any y _).mono ?_); rintro e w' ⟨rfl, rfl⟩; rw [hy]))
    go_ret
    exact ⟨rfl, (Below.refl _ w).alloc (Nat.le_refl _) _⟩
end

/-- What is known behind the question whether the unit must be dropped first. -/
structure Mid (w w1 : World) (S : Nat → Prop) (N xb hb cb : Nat) (Dh Dc : DataW Unit) (L1 L : List Un) (id x y c r : Int) : Prop where
  ix : IX w1 S N xb hb cb Dh Dc L1
  off : OffP w w1 S
  b0 : w1.heap[w.heap.size]? = some (.cells #[.int .i64 x, .int .i64 y] 32 (0, 0))
  b1 : w1.heap[w.heap.size + 1]? = some (.cells #[.int .i64 c, .int .i64 r] 54 (0, 0))
  del : del L1 id = Cll.del L id
  hw : ∀ s, lk L1 id = some s → s.x / 16 = c ∧ s.y / 16 = r
section
variable {w : World} {S : Nat → Prop} {N xb hb cb : Nat} {Dh Dc : DataW Unit} {L : List Un}
theorem boxes (w : World) (x y c r : Int) : ((w.alloc (.cells #[.int .i64 x, .int .i64 y] 32)).alloc (.cells #[.int .i64 c, .int .i64 r] 54)).heap[w.heap.size]? = some (.cells #[.int .i64 x, .int .i64 y] 32 (0, 0)) ∧ ((w.alloc (.cells #[.int .i64 x, .int .i64 y] 32)).alloc (.cells #[.int .i64 c, .int .i64 r] 54)).heap[w.heap.size + 1]? = some (.cells #[.int .i64 c, .int .i64 r] 54 (0, 0)) ∧ Below w.heap.size w ((w.alloc (.cells #[.int .i64 x, .int .i64 y] 32)).alloc (.cells #[.int .i64 c, .int .i64 r] 54)) ∧ ((w.alloc (.cells #[.int .i64 x, .int .i64 y] 32)).alloc (.cells #[.int .i64 c, .int .i64 r] 54)).heap.size = w.heap.size + 2 := by
  refine ⟨(Below.heap_alloc _ _ _ (by simp)).trans (heap_alloc_new w _), ?_, ((Below.refl _ w).alloc (Nat.le_refl _) _).alloc (by simp) _, by simp⟩
  have := heap_alloc_new (w.alloc (.cells #[.int .i64 x, .int .i64 y] 32)) (.cells #[.int .i64 c, .int .i64 r] 54)
  simpa using this
theorem mid_stay (h : IX w S N xb hb cb Dh Dc L) {id x y c r : Int} (hw : ∀ s, lk L id = some s → s.x / 16 = c ∧ s.y / 16 = r) : Mid w ((w.alloc (.cells #[.int .i64 x, .int .i64 y] 32)).alloc (.cells #[.int .i64 c, .int .i64 r] 54)).drew S N xb hb cb Dh Dc L L id x y c r := by
  obtain ⟨h1, h2, h3, h4⟩ := boxes w x y c r
  exact ⟨h.step h3.drew, OffP.of_below h3.drew, h1, h2, rfl, hw⟩
theorem mid_no {w1 : World} (h : IX w S N xb hb cb Dh Dc L) {id x y c r : Int} (hn : lk L id = none) (hb' : Below ((w.alloc (.cells #[.int .i64 x, .int .i64 y] 32)).alloc (.cells #[.int .i64 c, .int .i64 r] 54)).drew.heap.size ((w.alloc (.cells #[.int .i64 x, .int .i64 y] 32)).alloc (.cells #[.int .i64 c, .int .i64 r] 54)).drew w1) : Mid w w1 S N xb hb cb Dh Dc L L id x y c r := by
  obtain ⟨h1, h2, h3, h4⟩ := boxes w x y c r
  have hb2 : Below ((w.alloc (.cells #[.int .i64 x, .int .i64 y] 32)).alloc (.cells #[.int .i64 c, .int .i64 r] 54)).heap.size ((w.alloc (.cells #[.int .i64 x, .int .i64 y] 32)).alloc (.cells #[.int .i64 c, .int .i64 r] 54)) w1 := ⟨hb'.os, hb'.tape, hb'.output, hb'.size, hb'.block⟩
  refine ⟨(h.step h3).step hb2, OffP.of_below (h3.trans (hb2.mono (by omega))), (hb2.block _ (by omega)).trans h1, (hb2.block _ (by omega)).trans h2, rfl, fun s hs => by rw [hn] at hs; cases hs⟩
theorem mid_yes {w1 : World} (h : IX w S N xb hb cb Dh Dc L) {id x y c r : Int} (hl : Left ((w.alloc (.cells #[.int .i64 x, .int .i64 y] 32)).alloc (.cells #[.int .i64 c, .int .i64 r] 54)).drew S N xb hb cb (Cll.del L id) w1) : ∃ Dh' Dc', Mid w w1 S N xb hb cb Dh' Dc' (Cll.del L id) L id x y c r := by
  obtain ⟨h1, h2, h3, h4⟩ := boxes w x y c r
  obtain ⟨Dh', Dc', k1, k2⟩ := hl
  have k3 : OffP ((w.alloc (.cells #[.int .i64 x, .int .i64 y] 32)).alloc (.cells #[.int .i64 c, .int .i64 r] 54)) w1 S := ⟨k2.out.os, k2.out.tape, k2.out.output, k2.out.size, k2.out.block⟩
  have hlow := h.low
  refine ⟨Dh', Dc', k1.out, (OffP.of_below h3).same k3, (k3.block _ (by omega) (fun e => by have := hlow _ e; omega)).trans h1, (k3.block _ (by omega) (fun e => by have := hlow _ e; omega)).trans h2, ?_, fun s hs => ?_⟩
  · exact del_none (by
      rw [Bool.eq_false_iff]
      intro e
      obtain ⟨s, hs, e⟩ := hasId_iff.1 e
      exact (mem_del.1 hs).2 e)
  · rw [lk_del h.good, if_pos rfl] at hs; cases hs
theorem Mid.drew {w1 : World} {L1 : List Un} {id x y c r : Int} (h : Mid w w1 S N xb hb cb Dh Dc L1 L id x y c r) : Mid w w1.drew S N xb hb cb Dh Dc L1 L id x y c r :=
  ⟨h.ix.keep (Nat.le_refl _) (fun _ _ => rfl), h.off.drew, h.b0, h.b1, h.del, h.hw⟩
/-- What is known once the cell has its map. -/
structure Mid2 (w w1 : World) (S S' : Nat → Prop) (N M xb hb cb ib : Nat) (Dh Dc D : DataW Unit) (L1 L : List Un) (id x y c r : Int) : Prop where
  ix : IX w1 S' M xb hb cb Dh Dc L1
  off : OffP w w1 S
  b0 : w1.heap[w.heap.size]? = some (.cells #[.int .i64 x, .int .i64 y] 32 (0, 0))
  b1 : w1.heap[w.heap.size + 1]? = some (.cells #[.int .i64 c, .int .i64 r] 54 (0, 0))
  del : del L1 id = Cll.del L id
  hw : ∀ s, lk L1 id = some s → s.x / 16 = c ∧ s.y / 16 = r
  hl : look Dc (ck c r) = some (bl ib)
  inn : In w1 S' M hb cb ib D L1 c r
  sub : ∀ b, S' b → S b ∨ w.heap.size + 2 ≤ b
  low : ∀ b, S b → b < w.heap.size
  le : M ≤ N + 1
theorem Mid2.drew {w1 : World} {S' : Nat → Prop} {M ib : Nat} {D : DataW Unit} {L1 : List Un} {id x y c r : Int} (h : Mid2 w w1 S S' N M xb hb cb ib Dh Dc D L1 L id x y c r) : Mid2 w w1.drew S S' N M xb hb cb ib Dh Dc D L1 L id x y c r :=
  ⟨h.ix.keep (Nat.le_refl _) (fun _ _ => rfl), h.off.drew, h.b0, h.b1, h.del, h.hw, h.hl, h.inn.keep rfl, h.sub, h.low, h.le⟩
theorem Mid.has {w1 : World} {ib : Nat} {D : DataW Unit} {L1 : List Un} {id x y c r : Int} (h : Mid w w1 S N xb hb cb Dh Dc L1 L id x y c r) (hlow : ∀ b, S b → b < w.heap.size) (hl : look Dc (ck c r) = some (bl ib)) (hI : In w1 S N hb cb ib D L1 c r) : Mid2 w w1 S S N N xb hb cb ib Dh Dc D L1 L id x y c r :=
  ⟨h.ix, h.off, h.b0, h.b1, h.del, h.hw, hl, hI, fun _ hb => .inl hb, hlow, by omega⟩
/-- Behind the making of a map for the cell. -/
theorem Mid.found {w1 w3 : World} {L1 : List Un} {id x y c r : Int} (h : Mid w w1 S N xb hb cb Dh Dc L1 L id x y c r) (hlow : ∀ b, S b → b < w.heap.size) (hc : Sd c) (hr : Sd r) (hN : (N : Int) < 90000) (hl : look Dc (ck c r) = none)
    (hown : w3.ownsMap Try.prog 54 Rm cb (N + 1) (Dc.put (ck c r) (bl w1.heap.size))) (ht : (w1.alloc (.map #[] 0)).drew.mapTurned w3 cb) : Mid2 w w3 S (fun b => S b ∨ b = w1.heap.size) N (N + 1) xb hb cb w1.heap.size Dh (Dc.put (ck c r) (bl w1.heap.size)) (.map []) L1 L id x y c r := by
  have hs : w3.heap.size = w1.heap.size + 1 := by rw [turned_size ht]; show (w1.alloc (.map #[] 0)).heap.size = _; simp
  have hold : ∀ k, k < w1.heap.size → k ≠ cb → w3.heap[k]? = w1.heap[k]? := fun k hk hn => (turned_at (w := (w1.alloc (.map #[] 0)).drew) ht (by show k < (w1.alloc (.map #[] 0)).heap.size; simp; omega) hn).trans (Below.heap_alloc _ _ _ hk)
  have hcb := h.ix.low cb h.ix.sc
  have hcb0 := hlow cb h.ix.sc
  have hin : w3.ownsMap Try.prog 3 Rt w1.heap.size 0 (.map []) := own_keep (World.ownsMap_made w1 Try.prog 3 Rt) (turned_at (w := (w1.alloc (.map #[] 0)).drew) ht (by show w1.heap.size < (w1.alloc (.map #[] 0)).heap.size; simp) (by omega))
  have h0 := (Array.getElem?_eq_some_iff.1 h.b0).1
  have h1 := (Array.getElem?_eq_some_iff.1 h.b1).1
  have hix := founded h.ix hc hr hl (Nat.le_refl _) (by omega) hown hin (fun b hb hn => hold b (h.ix.low b hb) hn) (by omega)
  refine ⟨hix, ?_, (hold _ h0 (by omega)).trans h.b0, (hold _ h1 (by omega)).trans h.b1, h.del, h.hw, look_put h.ix.cel.isMap (ck_lit _ _) _, ?_, fun b hb => ?_, hlow, by omega⟩
  · refine ⟨?_, ?_, ?_, by have := h.off.size; omega, fun k hk hn => ?_⟩
    · exact ht.grown.os.trans h.off.os
    · exact ht.grown.tape.trans h.off.tape
    · exact ht.grown.output.trans h.off.output
    · have hsz := h.off.size
      exact (hold k (by omega) (fun e => hn (e ▸ h.ix.sc))).trans (h.off.block k hk hn)
  · rcases hix.inn c r hc hr with ⟨e, _⟩ | ⟨b, D, e, hI⟩
    · rw [look_put h.ix.cel.isMap (ck_lit _ _)] at e; cases e
    · rw [look_put h.ix.cel.isMap (ck_lit _ _)] at e
      injection e with e
      have := bl_inj e
      subst this
      have hn : ∀ t ∈ L1, ¬ (t.x / 16 = c ∧ t.y / 16 = r) := by
        rcases h.ix.inn c r hc hr with ⟨_, h2⟩ | ⟨b, D, h1, _⟩
        · exact h2
        · rw [hl] at h1; cases h1
      exact ⟨hI.s, hI.nh, hI.nc, hin.mono (by omega), fun k => by
        cases hk : lk L1 k with
        | none => rfl
        | some t => simp [hn t (lk_some hk).1, look_empty]⟩
  · rcases hb with hb | rfl
    · exact .inl hb
    · exact .inr (by omega)
/-- Behind both stores. -/
theorem Mid2.done {w1 w3 : World} {S' : Nat → Prop} {M ib : Nat} {D : DataW Unit} {L1 : List Un} {id x y c r : Int} (h : Mid2 w w1 S S' N M xb hb cb ib Dh Dc D L1 L id x y c r) (hok : Okay ⟨id, x, y⟩) (hc : x / 16 = c) (hr : y / 16 = r) (hN : (N : Int) < 90000)
    (hh : w3.ownsMap Try.prog 3 Rt hb (M + 1) (Dh.put (key id) (td c r))) (hi : w3.ownsMap Try.prog 3 Rt ib (M + 1) (D.put (key id) (td x y))) (hs : w3.heap.size = w1.heap.size) (ho : ∀ k, k < w1.heap.size → k ≠ hb → k ≠ ib → w3.heap[k]? = w1.heap[k]?)
    (he : w3.os = w1.os ∧ w3.tape = w1.tape ∧ w3.output = w1.output) : PLeft w S N xb (ins (Cll.del L id) ⟨id, x, y⟩) w3 := by
  have hM := h.le
  have hp := placed (t := ⟨id, x, y⟩) h.ix hc hr hok h.hl h.inn h.hw (by omega) hh hi (fun b hb hn hni => ho b (h.ix.low b hb) hn hni) (by omega)
  have hp2 := hp.more (M := N + 2) (by omega) (by omega)
  rw [show (⟨id, x, y⟩ : Un).id = id from rfl, h.del] at hp2
  refine ⟨S', Lib.hid ⟨_, _, _, _, hp2⟩, Lib.hid ?_, Lib.hid (fun b hb => ?_)⟩
  · refine ⟨he.1.trans h.off.os, he.2.1.trans h.off.tape, he.2.2.trans h.off.output, by rw [hs]; exact h.off.size, fun k hk hn => ?_⟩
    have hsz := h.off.size
    have q : ∀ b, S' b → k ≠ b := by
      intro b hb e
      rcases h.sub b hb with h1 | h1
      · exact hn (e ▸ h1)
      · omega
    exact (ho k (by omega) (q _ h.ix.sh) (q _ h.inn.s)).trans (h.off.block k hk hn)
  · rcases h.sub b hb with h1 | h1
    · exact .inl h1
    · exact .inr ⟨by omega, by have := h.ix.low b hb; omega⟩
set_option maxHeartbeats 8000000 in
theorem put_on (h : IX w S N xb hb cb Dh Dc L) (id x y : Int) (hf : Fits id) (hxo : onB x = true) (hyo : onB y = true) (hN : (N : Int) < 90000) : Calls Try.prog 8 #[.pointer (some ⟨xb, 0, none⟩), .int .i64 id, pv x y] w fun e w' => e = .returned (.bool true) ∧ PLeft w S N xb (ins (del L id) ⟨id, x, y⟩) w' := by
  have hx : 0 ≤ x ∧ x ≤ 255 := by simpa [onB] using hxo
  have hy : 0 ≤ y ∧ y ≤ 255 := by simpa [onB] using hyo
  have hok : Okay ⟨id, x, y⟩ := ⟨hf, hx, hy⟩
  obtain ⟨c, hc⟩ : ∃ c, x / 16 = c := ⟨_, rfl⟩
  obtain ⟨r, hr⟩ : ∃ r, y / 16 = r := ⟨_, rfl⟩
  have hcs : Sd c := hc ▸ sd_div hx
  have hrs : Sd r := hr ▸ sd_div hy
  have hqx : Int.tdiv x 16 = c := by rw [← hc]; exact Int.tdiv_eq_ediv_of_nonneg hx.1
  have hqy : Int.tdiv y 16 = r := by rw [← hr]; exact Int.tdiv_eq_ediv_of_nonneg hy.1
  have HC := Lib.hid hc; have HR := Lib.hid hr; have HOk := Lib.hid hok
  obtain ⟨g1, g2, g3, g4⟩ := boxes w x y c r
  have hx0 := (h.step g3).cell0
  have hx1 := (h.step g3).cell1
  have hlt := h.lt
  clear hc hr hok hx hy

  have HLow := Lib.hid h.low
  have heq0 := map_nil
  have heq1 := map_some
  have hwc : wrap64 c = c := IntWalk.wrap64_in c (by have := hcs.1; have := hcs.2; omega)
  have hwr : wrap64 r = r := IntWalk.wrap64_in r (by have := hrs.1; have := hrs.2; omega)
  have HMax0 : Hid (N < maxLen) := Lib.hid (by unfold maxLen; omega)
  cases hl : lk L id with
  | none =>
    have hlk := hlook_none (w := ((w.alloc (.cells #[.int .i64 x, .int .i64 y] 32)).alloc (.cells #[.int .i64 c, .int .i64 r] 54)).drew) (h.step g3.drew) hf hl false
    simp only [Bool.false_eq_true, if_false] at hlk
    by_cases hh : (0 : Int) = c ∧ (0 : Int) = r
    · skip
      have hneq := neq_pair 0 0 c r false (by simp [← hh.1, ← hh.2])
      have HM := Lib.hid (mid_stay (x := x) (y := y) (c := c) (r := r) h (id := id) (fun s hs => by rw [hl] at hs; cases hs))
      have cc0 : ((w.alloc (.cells #[.int .i64 x, .int .i64 y] 32)).alloc (.cells #[.int .i64 c, .int .i64 r] 54)).cell? ⟨w.heap.size + 1, 0, none⟩ = some (.int .i64 c) := (cell_of_row _ _ 0 _ 54 (0, 0) g2).trans rfl
      have cc1 : ((w.alloc (.cells #[.int .i64 x, .int .i64 y] 32)).alloc (.cells #[.int .i64 c, .int .i64 r] 54)).cell? ⟨w.heap.size + 1, 1, none⟩ = some (.int .i64 r) := (cell_of_row _ _ 1 _ 54 (0, 0) g2).trans rfl
      clear hh hl g1 g2 g3 g4 h
      go_enter Try.func8, Try.ntmps8
      go_wp2_with (first
        | ((with_reducible refine (side_any x _).mono ?_); rintro e w' ⟨rfl, rfl⟩; rw [hxo]; clear hxo)
        | ((with_reducible refine (side_any y _).mono ?_); rintro e w' ⟨rfl, rfl⟩; rw [hyo]; clear hyo))
      generalize ((w.alloc (.cells #[.int .i64 x, .int .i64 y] 32)).alloc (.cells #[.int .i64 c, .int .i64 r] 54)) = w0 at *
      go_still_tail 7, (by kernel_rfl)
      change wpList _ _ _ _ _ w0.drew
      clear hx0 hx1 hlk cc0 cc1
      generalize w0.drew = w1 at *
      go_wp2

      have x1 : w1.cell? ⟨xb, 1, none⟩ = some (.map (some cb)) := HM.out.ix.cell1
      have c0 : w1.cell? ⟨w.heap.size + 1, 0, none⟩ = some (.int .i64 c) := (cell_of_row w1 _ 0 _ 54 (0, 0) HM.out.b1).trans rfl
      have c1 : w1.cell? ⟨w.heap.size + 1, 1, none⟩ = some (.int .i64 r) := (cell_of_row w1 _ 1 _ 54 (0, 0) HM.out.b1).trans rfl
      rcases HM.out.ix.inn c r hcs hrs with ⟨hl1, _⟩ | ⟨ib, D, hl1, hI⟩
      · have hck := clook_none (w := w1.drew) (show w1.drew.ownsMap Try.prog 54 Rm cb N Dc from HM.out.ix.cel) hcs hrs hl1
        have HM1 := Lib.hid HM.out.drew
        go_still_tail 6, (by kernel_rfl)
        change wpList _ _ _ _ _ w1.drew
        clear x1 c0 c1 hck HM
        generalize w1.drew = w3 at *
        have b0 : w3.heap[w.heap.size + 1]? = some (.cells #[.int .i64 c, .int .i64 r] 54 (0, 0)) := HM1.out.b1
        have b1 : w3.heap[xb]? = some (.cells #[.map (some hb), .map (some cb)] 52 (0, 0)) := HM1.out.ix.st
        have l0 := (Array.getElem?_eq_some_iff.1 b0).1
        have l1 := (Array.getElem?_eq_some_iff.1 b1).1
        have x1 : w3.cell? ⟨xb, 1, none⟩ = some (.map (some cb)) := HM1.out.ix.cell1
        have c0 : w3.cell? ⟨w.heap.size + 1, 0, none⟩ = some (.int .i64 c) := (cell_of_row w3 _ 0 _ 54 (0, 0) b0).trans rfl
        have c1 : w3.cell? ⟨w.heap.size + 1, 1, none⟩ = some (.int .i64 r) := (cell_of_row w3 _ 1 _ 54 (0, 0) b0).trans rfl
        have x1' : (w3.alloc (.map #[] 0)).cell? ⟨xb, 1, none⟩ = some (.map (some cb)) := (World.cell?_alloc_lt _ _ _ l1).trans x1
        have c0' : (w3.alloc (.map #[] 0)).cell? ⟨w.heap.size + 1, 0, none⟩ = some (.int .i64 c) := (World.cell?_alloc_lt _ _ _ l0).trans c0
        have c1' : (w3.alloc (.map #[] 0)).cell? ⟨w.heap.size + 1, 1, none⟩ = some (.int .i64 r) := (World.cell?_alloc_lt _ _ _ l0).trans c1
        have hcl3 : (w3.alloc (.map #[] 0)).drew.ownsMap Try.prog 54 Rm cb N Dc := HM1.out.ix.cel.alloc _
        obtain ⟨w2, hrun, hown2, hturn2⟩ := hcl3.store kCell Try.underlying50 HMax0.out (ck_of hcs.fits hrs.fits) (show Rm (.map (some w3.heap.size)) = some (bl w3.heap.size, []) from rfl)
        have HM2 := Lib.hid (HM1.out.found HLow.out hcs hrs hN hl1 hown2 hturn2)
        have hmm := @run_makeMap Try.prog
        have HHl := Lib.hid HM2.out.hl
        have HLowH := Lib.hid (HLow.out hb HM1.out.ix.sh)
        have HMax : Hid (N + 1 < maxLen) := Lib.hid (by unfold maxLen; omega)
        clear b0 b1 hcl3 hown2 hturn2 hl1
        go_wp2
        go_region
        go_wp2
        generalize hib : w3.heap.size = ib at *
        clear hrun hmm x1 c0 c1 x1' c0' c1' l0 l1 hib
        have c0 : w2.cell? ⟨w.heap.size + 1, 0, none⟩ = some (.int .i64 c) := (cell_of_row w2 _ 0 _ 54 (0, 0) HM2.out.b1).trans rfl
        have c1 : w2.cell? ⟨w.heap.size + 1, 1, none⟩ = some (.int .i64 r) := (cell_of_row w2 _ 1 _ 54 (0, 0) HM2.out.b1).trans rfl
        have x0 := HM2.out.ix.cell0
        go_still_tail 6, (by kernel_rfl)
        change wpList _ _ _ _ _ w2.drew
        have hown8 : w2.drew.ownsMap Try.prog 3 Rt hb (N + 1) Dh := HM2.out.ix.hom
        have HK8 : Hid (∀ w8 : World, w8.ownsMap Try.prog 3 Rt hb ((N + 1) + 1) (Dh.put (key id) (td c r)) → w2.drew.mapTurned w8 hb → w8.cell? ⟨xb, 1, none⟩ = some (.map (some cb)) ∧ w8.cell? ⟨w.heap.size + 1, 0, none⟩ = some (.int .i64 c) ∧ w8.cell? ⟨w.heap.size + 1, 1, none⟩ = some (.int .i64 r) ∧ w8.cell? ⟨w.heap.size, 0, none⟩ = some (.int .i64 x) ∧ w8.cell? ⟨w.heap.size, 1, none⟩ = some (.int .i64 y) ∧
            Hid (w8.ownsMap Try.prog 3 Rt hb ((N + 1) + 1) (Dh.put (key id) (td c r))) ∧ Hid (w8.ownsMap Try.prog 54 Rm cb (N + 1) (Dc.put (ck c r) (bl ib))) ∧ Hid (w8.ownsMap Try.prog 3 Rt ib (N + 1) (DataW.map [])) ∧ Hid (w8.heap.size = w2.heap.size ∧ (∀ k, k < w2.heap.size → k ≠ hb → w8.heap[k]? = w2.heap[k]?) ∧ w8.os = w2.os ∧ w8.tape = w2.tape ∧ w8.output = w2.output)) := Lib.hid (fun w8 k1 k2 => by
          have hold : ∀ k, k < w2.heap.size → k ≠ hb → w8.heap[k]? = w2.heap[k]? := fun k hk hn => turned_at (w := w2.drew) k2 (k := k) hk hn
          have hhb := HM2.out.low hb (by rcases HM2.out.sub hb HM2.out.ix.sh with e | e; exact e; exact absurd e (by have := HLowH.out; omega))
          have b0 := (hold _ (Array.getElem?_eq_some_iff.1 HM2.out.b0).1 (by omega)).trans HM2.out.b0
          have b1 := (hold _ (Array.getElem?_eq_some_iff.1 HM2.out.b1).1 (by omega)).trans HM2.out.b1
          have bx := (hold xb (HM2.out.ix.low _ HM2.out.ix.sx) HM2.out.ix.x_ne.1).trans HM2.out.ix.st
          exact ⟨(cell_of_row w8 _ 1 _ 52 (0, 0) bx).trans rfl, (cell_of_row w8 _ 0 _ 54 (0, 0) b1).trans rfl, (cell_of_row w8 _ 1 _ 54 (0, 0) b1).trans rfl, (cell_of_row w8 _ 0 _ 32 (0, 0) b0).trans rfl, (cell_of_row w8 _ 1 _ 32 (0, 0) b0).trans rfl, Lib.hid k1, Lib.hid (own_keep HM2.out.ix.cel (hold cb (HM2.out.ix.low _ HM2.out.ix.sc) (Ne.symm HM2.out.ix.ne))), Lib.hid (own_keep HM2.out.inn.own (hold _ (HM2.out.ix.low _ HM2.out.inn.s) HM2.out.inn.nh)), Lib.hid ⟨turned_size (w := w2.drew) k2, hold, k2.grown.os, k2.grown.tape, k2.grown.output⟩⟩)
        go_wp2_with (at_mapUpdate; refine wpList_mapUpdate_in _ rfl _ _ _ 49 rfl 3 54 kInt Try.underlying49 Rt hb (N + 1) Dh rfl hown8 (HMax.out) _ _ (key id) rfl rfl (key_of hf) (td c r) [] (rt_mk c r) ?_; intro w8 hown9 hturn9; obtain ⟨y0, y1, y2, y3, y4, HA8, HC8, HD8, HB8⟩ := HK8.out w8 hown9 hturn9; clear hown9 hturn9 hown8 HK8)
        have hck := clook_some (w := w8.drew) (show w8.drew.ownsMap Try.prog 54 Rm cb (N + 1) (Dc.put (ck c r) (bl ib)) from HC8.out) hcs hrs HHl.out
        go_still_tail 8, (by kernel_rfl)
        change wpList _ _ _ _ _ w8.drew
        have hown9 : w8.drew.ownsMap Try.prog 3 Rt ib (N + 1) (DataW.map []) := HD8.out
        have HK9 : Hid (∀ w9 : World, w9.ownsMap Try.prog 3 Rt ib ((N + 1) + 1) (DataW.put (DataW.map []) (key id) (td x y)) → w8.drew.mapTurned w9 ib → PLeft w S N xb (ins (Cll.del L id) ⟨id, x, y⟩) w9) := Lib.hid (fun w9 k1 k2 => by
          obtain ⟨q1, q2, q3, q4, q5⟩ := HB8.out
          have hold : ∀ k, k < w8.heap.size → k ≠ ib → w9.heap[k]? = w8.heap[k]? := fun k hk hn => turned_at (w := w8.drew) k2 (k := k) hk hn
          exact HM2.out.done HOk.out HC.out HR.out hN (own_keep HA8.out (hold hb (by rw [q1]; exact HM2.out.ix.low _ HM2.out.ix.sh) (Ne.symm HM2.out.inn.nh))) k1 (by rw [turned_size k2]; exact q1) (fun k hk a b => (hold k (by omega) b).trans (q2 k hk a)) ⟨k2.grown.os.trans q3, k2.grown.tape.trans q4, k2.grown.output.trans q5⟩)
        go_wp2_with (at_mapUpdate; refine wpList_mapUpdate_in _ rfl _ _ _ 55 rfl 3 32 kInt Try.underlying55 Rt ib (N + 1) (DataW.map []) rfl hown9 (HMax.out) _ _ (key id) rfl rfl (key_of hf) (td x y) [] (rt_mk x y) ?_; intro w9 hown10 hturn10; have HL := Lib.hid (HK9.out w9 hown10 hturn10); clear hown10 hturn10 hown9 HK9)
        go_ret
        exact ⟨rfl, HL.out⟩
      · have hck := clook_some (w := w1.drew) (show w1.drew.ownsMap Try.prog 54 Rm cb N Dc from HM.out.ix.cel) hcs hrs hl1
        have HM2 := Lib.hid ((HM.out.has HLow.out hl1 hI).drew)
        have HHl := Lib.hid HM2.out.hl
        have HLowH := Lib.hid (HLow.out hb HM.out.ix.sh)
        have HMax := HMax0
        go_still_tail 6, (by kernel_rfl)
        change wpList _ _ _ _ _ w1.drew
        clear x1 c0 c1 hck HM hI hl1
        generalize w1.drew = w2 at *
        go_wp2
        have c0 : w2.cell? ⟨w.heap.size + 1, 0, none⟩ = some (.int .i64 c) := (cell_of_row w2 _ 0 _ 54 (0, 0) HM2.out.b1).trans rfl
        have c1 : w2.cell? ⟨w.heap.size + 1, 1, none⟩ = some (.int .i64 r) := (cell_of_row w2 _ 1 _ 54 (0, 0) HM2.out.b1).trans rfl
        have x0 := HM2.out.ix.cell0
        go_still_tail 6, (by kernel_rfl)
        change wpList _ _ _ _ _ w2.drew
        have hown8 : w2.drew.ownsMap Try.prog 3 Rt hb N Dh := HM2.out.ix.hom
        have HK8 : Hid (∀ w8 : World, w8.ownsMap Try.prog 3 Rt hb (N + 1) (Dh.put (key id) (td c r)) → w2.drew.mapTurned w8 hb → w8.cell? ⟨xb, 1, none⟩ = some (.map (some cb)) ∧ w8.cell? ⟨w.heap.size + 1, 0, none⟩ = some (.int .i64 c) ∧ w8.cell? ⟨w.heap.size + 1, 1, none⟩ = some (.int .i64 r) ∧ w8.cell? ⟨w.heap.size, 0, none⟩ = some (.int .i64 x) ∧ w8.cell? ⟨w.heap.size, 1, none⟩ = some (.int .i64 y) ∧
            Hid (w8.ownsMap Try.prog 3 Rt hb (N + 1) (Dh.put (key id) (td c r))) ∧ Hid (w8.ownsMap Try.prog 54 Rm cb N Dc) ∧ Hid (w8.ownsMap Try.prog 3 Rt ib N D) ∧ Hid (w8.heap.size = w2.heap.size ∧ (∀ k, k < w2.heap.size → k ≠ hb → w8.heap[k]? = w2.heap[k]?) ∧ w8.os = w2.os ∧ w8.tape = w2.tape ∧ w8.output = w2.output)) := Lib.hid (fun w8 k1 k2 => by
          have hold : ∀ k, k < w2.heap.size → k ≠ hb → w8.heap[k]? = w2.heap[k]? := fun k hk hn => turned_at (w := w2.drew) k2 (k := k) hk hn
          have hhb := HM2.out.low hb (by rcases HM2.out.sub hb HM2.out.ix.sh with e | e; exact e; exact absurd e (by have := HLowH.out; omega))
          have b0 := (hold _ (Array.getElem?_eq_some_iff.1 HM2.out.b0).1 (by omega)).trans HM2.out.b0
          have b1 := (hold _ (Array.getElem?_eq_some_iff.1 HM2.out.b1).1 (by omega)).trans HM2.out.b1
          have bx := (hold xb (HM2.out.ix.low _ HM2.out.ix.sx) HM2.out.ix.x_ne.1).trans HM2.out.ix.st
          exact ⟨(cell_of_row w8 _ 1 _ 52 (0, 0) bx).trans rfl, (cell_of_row w8 _ 0 _ 54 (0, 0) b1).trans rfl, (cell_of_row w8 _ 1 _ 54 (0, 0) b1).trans rfl, (cell_of_row w8 _ 0 _ 32 (0, 0) b0).trans rfl, (cell_of_row w8 _ 1 _ 32 (0, 0) b0).trans rfl, Lib.hid k1, Lib.hid (own_keep HM2.out.ix.cel (hold cb (HM2.out.ix.low _ HM2.out.ix.sc) (Ne.symm HM2.out.ix.ne))), Lib.hid (own_keep HM2.out.inn.own (hold _ (HM2.out.ix.low _ HM2.out.inn.s) HM2.out.inn.nh)), Lib.hid ⟨turned_size (w := w2.drew) k2, hold, k2.grown.os, k2.grown.tape, k2.grown.output⟩⟩)
        go_wp2_with (at_mapUpdate; refine wpList_mapUpdate_in _ rfl _ _ _ 49 rfl 3 54 kInt Try.underlying49 Rt hb N Dh rfl hown8 (HMax.out) _ _ (key id) rfl rfl (key_of hf) (td c r) [] (rt_mk c r) ?_; intro w8 hown9 hturn9; obtain ⟨y0, y1, y2, y3, y4, HA8, HC8, HD8, HB8⟩ := HK8.out w8 hown9 hturn9; clear hown9 hturn9 hown8 HK8)
        have hck := clook_some (w := w8.drew) (show w8.drew.ownsMap Try.prog 54 Rm cb N Dc from HC8.out) hcs hrs HHl.out
        go_still_tail 8, (by kernel_rfl)
        change wpList _ _ _ _ _ w8.drew
        have hown9 : w8.drew.ownsMap Try.prog 3 Rt ib N D := HD8.out
        have HK9 : Hid (∀ w9 : World, w9.ownsMap Try.prog 3 Rt ib (N + 1) (DataW.put D (key id) (td x y)) → w8.drew.mapTurned w9 ib → PLeft w S N xb (ins (Cll.del L id) ⟨id, x, y⟩) w9) := Lib.hid (fun w9 k1 k2 => by
          obtain ⟨q1, q2, q3, q4, q5⟩ := HB8.out
          have hold : ∀ k, k < w8.heap.size → k ≠ ib → w9.heap[k]? = w8.heap[k]? := fun k hk hn => turned_at (w := w8.drew) k2 (k := k) hk hn
          exact HM2.out.done HOk.out HC.out HR.out hN (own_keep HA8.out (hold hb (by rw [q1]; exact HM2.out.ix.low _ HM2.out.ix.sh) (Ne.symm HM2.out.inn.nh))) k1 (by rw [turned_size k2]; exact q1) (fun k hk a b => (hold k (by omega) b).trans (q2 k hk a)) ⟨k2.grown.os.trans q3, k2.grown.tape.trans q4, k2.grown.output.trans q5⟩)
        go_wp2_with (at_mapUpdate; refine wpList_mapUpdate_in _ rfl _ _ _ 55 rfl 3 32 kInt Try.underlying55 Rt ib N D rfl hown9 (HMax.out) _ _ (key id) rfl rfl (key_of hf) (td x y) [] (rt_mk x y) ?_; intro w9 hown10 hturn10; have HL := Lib.hid (HK9.out w9 hown10 hturn10); clear hown10 hturn10 hown9 HK9)
        go_ret
        exact ⟨rfl, HL.out⟩

    · skip
      have hneq := neq_pair 0 0 c r true (by simp only [decide_eq_true_eq]; exact hh)
      have HMn := Lib.hid (fun w1 => mid_no (w1 := w1) (x := x) (y := y) (c := c) (r := r) h hl)
      have hdn := drop_no (h.step g3.drew) id hf hl
      have cc0 : ((w.alloc (.cells #[.int .i64 x, .int .i64 y] 32)).alloc (.cells #[.int .i64 c, .int .i64 r] 54)).cell? ⟨w.heap.size + 1, 0, none⟩ = some (.int .i64 c) := (cell_of_row _ _ 0 _ 54 (0, 0) g2).trans rfl
      have cc1 : ((w.alloc (.cells #[.int .i64 x, .int .i64 y] 32)).alloc (.cells #[.int .i64 c, .int .i64 r] 54)).cell? ⟨w.heap.size + 1, 1, none⟩ = some (.int .i64 r) := (cell_of_row _ _ 1 _ 54 (0, 0) g2).trans rfl
      clear hh hl g1 g2 g3 g4 h
      go_enter Try.func8, Try.ntmps8
      go_wp2_with (first
        | ((with_reducible refine (side_any x _).mono ?_); rintro e w' ⟨rfl, rfl⟩; rw [hxo]; clear hxo)
        | ((with_reducible refine (side_any y _).mono ?_); rintro e w' ⟨rfl, rfl⟩; rw [hyo]; clear hyo))
      generalize ((w.alloc (.cells #[.int .i64 x, .int .i64 y] 32)).alloc (.cells #[.int .i64 c, .int .i64 r] 54)) = w0 at *
      go_still_tail 7, (by kernel_rfl)
      change wpList _ _ _ _ _ w0.drew
      clear hx0 hx1 hlk cc0 cc1
      generalize w0.drew = w1' at *
      go_wp2_with ((refine hdn.mono ?_); rintro e w1 ⟨rfl, hbd⟩; have HM := Lib.hid (HMn.out w1 hbd); clear hbd HMn hdn)

      have x1 : w1.cell? ⟨xb, 1, none⟩ = some (.map (some cb)) := HM.out.ix.cell1
      have c0 : w1.cell? ⟨w.heap.size + 1, 0, none⟩ = some (.int .i64 c) := (cell_of_row w1 _ 0 _ 54 (0, 0) HM.out.b1).trans rfl
      have c1 : w1.cell? ⟨w.heap.size + 1, 1, none⟩ = some (.int .i64 r) := (cell_of_row w1 _ 1 _ 54 (0, 0) HM.out.b1).trans rfl
      rcases HM.out.ix.inn c r hcs hrs with ⟨hl1, _⟩ | ⟨ib, D, hl1, hI⟩
      · have hck := clook_none (w := w1.drew) (show w1.drew.ownsMap Try.prog 54 Rm cb N Dc from HM.out.ix.cel) hcs hrs hl1
        have HM1 := Lib.hid HM.out.drew
        go_still_tail 6, (by kernel_rfl)
        change wpList _ _ _ _ _ w1.drew
        clear x1 c0 c1 hck HM
        generalize w1.drew = w3 at *
        have b0 : w3.heap[w.heap.size + 1]? = some (.cells #[.int .i64 c, .int .i64 r] 54 (0, 0)) := HM1.out.b1
        have b1 : w3.heap[xb]? = some (.cells #[.map (some hb), .map (some cb)] 52 (0, 0)) := HM1.out.ix.st
        have l0 := (Array.getElem?_eq_some_iff.1 b0).1
        have l1 := (Array.getElem?_eq_some_iff.1 b1).1
        have x1 : w3.cell? ⟨xb, 1, none⟩ = some (.map (some cb)) := HM1.out.ix.cell1
        have c0 : w3.cell? ⟨w.heap.size + 1, 0, none⟩ = some (.int .i64 c) := (cell_of_row w3 _ 0 _ 54 (0, 0) b0).trans rfl
        have c1 : w3.cell? ⟨w.heap.size + 1, 1, none⟩ = some (.int .i64 r) := (cell_of_row w3 _ 1 _ 54 (0, 0) b0).trans rfl
        have x1' : (w3.alloc (.map #[] 0)).cell? ⟨xb, 1, none⟩ = some (.map (some cb)) := (World.cell?_alloc_lt _ _ _ l1).trans x1
        have c0' : (w3.alloc (.map #[] 0)).cell? ⟨w.heap.size + 1, 0, none⟩ = some (.int .i64 c) := (World.cell?_alloc_lt _ _ _ l0).trans c0
        have c1' : (w3.alloc (.map #[] 0)).cell? ⟨w.heap.size + 1, 1, none⟩ = some (.int .i64 r) := (World.cell?_alloc_lt _ _ _ l0).trans c1
        have hcl3 : (w3.alloc (.map #[] 0)).drew.ownsMap Try.prog 54 Rm cb N Dc := HM1.out.ix.cel.alloc _
        obtain ⟨w2, hrun, hown2, hturn2⟩ := hcl3.store kCell Try.underlying50 HMax0.out (ck_of hcs.fits hrs.fits) (show Rm (.map (some w3.heap.size)) = some (bl w3.heap.size, []) from rfl)
        have HM2 := Lib.hid (HM1.out.found HLow.out hcs hrs hN hl1 hown2 hturn2)
        have hmm := @run_makeMap Try.prog
        have HHl := Lib.hid HM2.out.hl
        have HLowH := Lib.hid (HLow.out hb HM1.out.ix.sh)
        have HMax : Hid (N + 1 < maxLen) := Lib.hid (by unfold maxLen; omega)
        clear b0 b1 hcl3 hown2 hturn2 hl1
        go_wp2
        go_region
        go_wp2
        generalize hib : w3.heap.size = ib at *
        clear hrun hmm x1 c0 c1 x1' c0' c1' l0 l1 hib
        have c0 : w2.cell? ⟨w.heap.size + 1, 0, none⟩ = some (.int .i64 c) := (cell_of_row w2 _ 0 _ 54 (0, 0) HM2.out.b1).trans rfl
        have c1 : w2.cell? ⟨w.heap.size + 1, 1, none⟩ = some (.int .i64 r) := (cell_of_row w2 _ 1 _ 54 (0, 0) HM2.out.b1).trans rfl
        have x0 := HM2.out.ix.cell0
        go_still_tail 6, (by kernel_rfl)
        change wpList _ _ _ _ _ w2.drew
        have hown8 : w2.drew.ownsMap Try.prog 3 Rt hb (N + 1) Dh := HM2.out.ix.hom
        have HK8 : Hid (∀ w8 : World, w8.ownsMap Try.prog 3 Rt hb ((N + 1) + 1) (Dh.put (key id) (td c r)) → w2.drew.mapTurned w8 hb → w8.cell? ⟨xb, 1, none⟩ = some (.map (some cb)) ∧ w8.cell? ⟨w.heap.size + 1, 0, none⟩ = some (.int .i64 c) ∧ w8.cell? ⟨w.heap.size + 1, 1, none⟩ = some (.int .i64 r) ∧ w8.cell? ⟨w.heap.size, 0, none⟩ = some (.int .i64 x) ∧ w8.cell? ⟨w.heap.size, 1, none⟩ = some (.int .i64 y) ∧
            Hid (w8.ownsMap Try.prog 3 Rt hb ((N + 1) + 1) (Dh.put (key id) (td c r))) ∧ Hid (w8.ownsMap Try.prog 54 Rm cb (N + 1) (Dc.put (ck c r) (bl ib))) ∧ Hid (w8.ownsMap Try.prog 3 Rt ib (N + 1) (DataW.map [])) ∧ Hid (w8.heap.size = w2.heap.size ∧ (∀ k, k < w2.heap.size → k ≠ hb → w8.heap[k]? = w2.heap[k]?) ∧ w8.os = w2.os ∧ w8.tape = w2.tape ∧ w8.output = w2.output)) := Lib.hid (fun w8 k1 k2 => by
          have hold : ∀ k, k < w2.heap.size → k ≠ hb → w8.heap[k]? = w2.heap[k]? := fun k hk hn => turned_at (w := w2.drew) k2 (k := k) hk hn
          have hhb := HM2.out.low hb (by rcases HM2.out.sub hb HM2.out.ix.sh with e | e; exact e; exact absurd e (by have := HLowH.out; omega))
          have b0 := (hold _ (Array.getElem?_eq_some_iff.1 HM2.out.b0).1 (by omega)).trans HM2.out.b0
          have b1 := (hold _ (Array.getElem?_eq_some_iff.1 HM2.out.b1).1 (by omega)).trans HM2.out.b1
          have bx := (hold xb (HM2.out.ix.low _ HM2.out.ix.sx) HM2.out.ix.x_ne.1).trans HM2.out.ix.st
          exact ⟨(cell_of_row w8 _ 1 _ 52 (0, 0) bx).trans rfl, (cell_of_row w8 _ 0 _ 54 (0, 0) b1).trans rfl, (cell_of_row w8 _ 1 _ 54 (0, 0) b1).trans rfl, (cell_of_row w8 _ 0 _ 32 (0, 0) b0).trans rfl, (cell_of_row w8 _ 1 _ 32 (0, 0) b0).trans rfl, Lib.hid k1, Lib.hid (own_keep HM2.out.ix.cel (hold cb (HM2.out.ix.low _ HM2.out.ix.sc) (Ne.symm HM2.out.ix.ne))), Lib.hid (own_keep HM2.out.inn.own (hold _ (HM2.out.ix.low _ HM2.out.inn.s) HM2.out.inn.nh)), Lib.hid ⟨turned_size (w := w2.drew) k2, hold, k2.grown.os, k2.grown.tape, k2.grown.output⟩⟩)
        go_wp2_with (at_mapUpdate; refine wpList_mapUpdate_in _ rfl _ _ _ 49 rfl 3 54 kInt Try.underlying49 Rt hb (N + 1) Dh rfl hown8 (HMax.out) _ _ (key id) rfl rfl (key_of hf) (td c r) [] (rt_mk c r) ?_; intro w8 hown9 hturn9; obtain ⟨y0, y1, y2, y3, y4, HA8, HC8, HD8, HB8⟩ := HK8.out w8 hown9 hturn9; clear hown9 hturn9 hown8 HK8)
        have hck := clook_some (w := w8.drew) (show w8.drew.ownsMap Try.prog 54 Rm cb (N + 1) (Dc.put (ck c r) (bl ib)) from HC8.out) hcs hrs HHl.out
        go_still_tail 8, (by kernel_rfl)
        change wpList _ _ _ _ _ w8.drew
        have hown9 : w8.drew.ownsMap Try.prog 3 Rt ib (N + 1) (DataW.map []) := HD8.out
        have HK9 : Hid (∀ w9 : World, w9.ownsMap Try.prog 3 Rt ib ((N + 1) + 1) (DataW.put (DataW.map []) (key id) (td x y)) → w8.drew.mapTurned w9 ib → PLeft w S N xb (ins (Cll.del L id) ⟨id, x, y⟩) w9) := Lib.hid (fun w9 k1 k2 => by
          obtain ⟨q1, q2, q3, q4, q5⟩ := HB8.out
          have hold : ∀ k, k < w8.heap.size → k ≠ ib → w9.heap[k]? = w8.heap[k]? := fun k hk hn => turned_at (w := w8.drew) k2 (k := k) hk hn
          exact HM2.out.done HOk.out HC.out HR.out hN (own_keep HA8.out (hold hb (by rw [q1]; exact HM2.out.ix.low _ HM2.out.ix.sh) (Ne.symm HM2.out.inn.nh))) k1 (by rw [turned_size k2]; exact q1) (fun k hk a b => (hold k (by omega) b).trans (q2 k hk a)) ⟨k2.grown.os.trans q3, k2.grown.tape.trans q4, k2.grown.output.trans q5⟩)
        go_wp2_with (at_mapUpdate; refine wpList_mapUpdate_in _ rfl _ _ _ 55 rfl 3 32 kInt Try.underlying55 Rt ib (N + 1) (DataW.map []) rfl hown9 (HMax.out) _ _ (key id) rfl rfl (key_of hf) (td x y) [] (rt_mk x y) ?_; intro w9 hown10 hturn10; have HL := Lib.hid (HK9.out w9 hown10 hturn10); clear hown10 hturn10 hown9 HK9)
        go_ret
        exact ⟨rfl, HL.out⟩
      · have hck := clook_some (w := w1.drew) (show w1.drew.ownsMap Try.prog 54 Rm cb N Dc from HM.out.ix.cel) hcs hrs hl1
        have HM2 := Lib.hid ((HM.out.has HLow.out hl1 hI).drew)
        have HHl := Lib.hid HM2.out.hl
        have HLowH := Lib.hid (HLow.out hb HM.out.ix.sh)
        have HMax := HMax0
        go_still_tail 6, (by kernel_rfl)
        change wpList _ _ _ _ _ w1.drew
        clear x1 c0 c1 hck HM hI hl1
        generalize w1.drew = w2 at *
        go_wp2
        have c0 : w2.cell? ⟨w.heap.size + 1, 0, none⟩ = some (.int .i64 c) := (cell_of_row w2 _ 0 _ 54 (0, 0) HM2.out.b1).trans rfl
        have c1 : w2.cell? ⟨w.heap.size + 1, 1, none⟩ = some (.int .i64 r) := (cell_of_row w2 _ 1 _ 54 (0, 0) HM2.out.b1).trans rfl
        have x0 := HM2.out.ix.cell0
        go_still_tail 6, (by kernel_rfl)
        change wpList _ _ _ _ _ w2.drew
        have hown8 : w2.drew.ownsMap Try.prog 3 Rt hb N Dh := HM2.out.ix.hom
        have HK8 : Hid (∀ w8 : World, w8.ownsMap Try.prog 3 Rt hb (N + 1) (Dh.put (key id) (td c r)) → w2.drew.mapTurned w8 hb → w8.cell? ⟨xb, 1, none⟩ = some (.map (some cb)) ∧ w8.cell? ⟨w.heap.size + 1, 0, none⟩ = some (.int .i64 c) ∧ w8.cell? ⟨w.heap.size + 1, 1, none⟩ = some (.int .i64 r) ∧ w8.cell? ⟨w.heap.size, 0, none⟩ = some (.int .i64 x) ∧ w8.cell? ⟨w.heap.size, 1, none⟩ = some (.int .i64 y) ∧
            Hid (w8.ownsMap Try.prog 3 Rt hb (N + 1) (Dh.put (key id) (td c r))) ∧ Hid (w8.ownsMap Try.prog 54 Rm cb N Dc) ∧ Hid (w8.ownsMap Try.prog 3 Rt ib N D) ∧ Hid (w8.heap.size = w2.heap.size ∧ (∀ k, k < w2.heap.size → k ≠ hb → w8.heap[k]? = w2.heap[k]?) ∧ w8.os = w2.os ∧ w8.tape = w2.tape ∧ w8.output = w2.output)) := Lib.hid (fun w8 k1 k2 => by
          have hold : ∀ k, k < w2.heap.size → k ≠ hb → w8.heap[k]? = w2.heap[k]? := fun k hk hn => turned_at (w := w2.drew) k2 (k := k) hk hn
          have hhb := HM2.out.low hb (by rcases HM2.out.sub hb HM2.out.ix.sh with e | e; exact e; exact absurd e (by have := HLowH.out; omega))
          have b0 := (hold _ (Array.getElem?_eq_some_iff.1 HM2.out.b0).1 (by omega)).trans HM2.out.b0
          have b1 := (hold _ (Array.getElem?_eq_some_iff.1 HM2.out.b1).1 (by omega)).trans HM2.out.b1
          have bx := (hold xb (HM2.out.ix.low _ HM2.out.ix.sx) HM2.out.ix.x_ne.1).trans HM2.out.ix.st
          exact ⟨(cell_of_row w8 _ 1 _ 52 (0, 0) bx).trans rfl, (cell_of_row w8 _ 0 _ 54 (0, 0) b1).trans rfl, (cell_of_row w8 _ 1 _ 54 (0, 0) b1).trans rfl, (cell_of_row w8 _ 0 _ 32 (0, 0) b0).trans rfl, (cell_of_row w8 _ 1 _ 32 (0, 0) b0).trans rfl, Lib.hid k1, Lib.hid (own_keep HM2.out.ix.cel (hold cb (HM2.out.ix.low _ HM2.out.ix.sc) (Ne.symm HM2.out.ix.ne))), Lib.hid (own_keep HM2.out.inn.own (hold _ (HM2.out.ix.low _ HM2.out.inn.s) HM2.out.inn.nh)), Lib.hid ⟨turned_size (w := w2.drew) k2, hold, k2.grown.os, k2.grown.tape, k2.grown.output⟩⟩)
        go_wp2_with (at_mapUpdate; refine wpList_mapUpdate_in _ rfl _ _ _ 49 rfl 3 54 kInt Try.underlying49 Rt hb N Dh rfl hown8 (HMax.out) _ _ (key id) rfl rfl (key_of hf) (td c r) [] (rt_mk c r) ?_; intro w8 hown9 hturn9; obtain ⟨y0, y1, y2, y3, y4, HA8, HC8, HD8, HB8⟩ := HK8.out w8 hown9 hturn9; clear hown9 hturn9 hown8 HK8)
        have hck := clook_some (w := w8.drew) (show w8.drew.ownsMap Try.prog 54 Rm cb N Dc from HC8.out) hcs hrs HHl.out
        go_still_tail 8, (by kernel_rfl)
        change wpList _ _ _ _ _ w8.drew
        have hown9 : w8.drew.ownsMap Try.prog 3 Rt ib N D := HD8.out
        have HK9 : Hid (∀ w9 : World, w9.ownsMap Try.prog 3 Rt ib (N + 1) (DataW.put D (key id) (td x y)) → w8.drew.mapTurned w9 ib → PLeft w S N xb (ins (Cll.del L id) ⟨id, x, y⟩) w9) := Lib.hid (fun w9 k1 k2 => by
          obtain ⟨q1, q2, q3, q4, q5⟩ := HB8.out
          have hold : ∀ k, k < w8.heap.size → k ≠ ib → w9.heap[k]? = w8.heap[k]? := fun k hk hn => turned_at (w := w8.drew) k2 (k := k) hk hn
          exact HM2.out.done HOk.out HC.out HR.out hN (own_keep HA8.out (hold hb (by rw [q1]; exact HM2.out.ix.low _ HM2.out.ix.sh) (Ne.symm HM2.out.inn.nh))) k1 (by rw [turned_size k2]; exact q1) (fun k hk a b => (hold k (by omega) b).trans (q2 k hk a)) ⟨k2.grown.os.trans q3, k2.grown.tape.trans q4, k2.grown.output.trans q5⟩)
        go_wp2_with (at_mapUpdate; refine wpList_mapUpdate_in _ rfl _ _ _ 55 rfl 3 32 kInt Try.underlying55 Rt ib N D rfl hown9 (HMax.out) _ _ (key id) rfl rfl (key_of hf) (td x y) [] (rt_mk x y) ?_; intro w9 hown10 hturn10; have HL := Lib.hid (HK9.out w9 hown10 hturn10); clear hown10 hturn10 hown9 HK9)
        go_ret
        exact ⟨rfl, HL.out⟩

  | some s =>
    have hlk := hlook_some (w := ((w.alloc (.cells #[.int .i64 x, .int .i64 y] 32)).alloc (.cells #[.int .i64 c, .int .i64 r] 54)).drew) (h.step g3.drew) hf hl false
    simp only [Bool.false_eq_true, if_false] at hlk
    by_cases hh : s.x / 16 = c ∧ s.y / 16 = r
    · skip
      have hneq := neq_pair c r c r false (by simp)
      have HM := Lib.hid (mid_stay (x := x) (y := y) (c := c) (r := r) h (id := id) (fun s' hs => by rw [hl] at hs; injection hs with hs; subst hs; exact hh))
      rw [hh.1, hh.2] at hlk
      have cc0 : ((w.alloc (.cells #[.int .i64 x, .int .i64 y] 32)).alloc (.cells #[.int .i64 c, .int .i64 r] 54)).cell? ⟨w.heap.size + 1, 0, none⟩ = some (.int .i64 c) := (cell_of_row _ _ 0 _ 54 (0, 0) g2).trans rfl
      have cc1 : ((w.alloc (.cells #[.int .i64 x, .int .i64 y] 32)).alloc (.cells #[.int .i64 c, .int .i64 r] 54)).cell? ⟨w.heap.size + 1, 1, none⟩ = some (.int .i64 r) := (cell_of_row _ _ 1 _ 54 (0, 0) g2).trans rfl
      clear hh hl g1 g2 g3 g4 h
      go_enter Try.func8, Try.ntmps8
      go_wp2_with (first
        | ((with_reducible refine (side_any x _).mono ?_); rintro e w' ⟨rfl, rfl⟩; rw [hxo]; clear hxo)
        | ((with_reducible refine (side_any y _).mono ?_); rintro e w' ⟨rfl, rfl⟩; rw [hyo]; clear hyo))
      generalize ((w.alloc (.cells #[.int .i64 x, .int .i64 y] 32)).alloc (.cells #[.int .i64 c, .int .i64 r] 54)) = w0 at *
      go_still_tail 7, (by kernel_rfl)
      change wpList _ _ _ _ _ w0.drew
      clear hx0 hx1 hlk cc0 cc1
      generalize w0.drew = w1 at *
      go_wp2

      have x1 : w1.cell? ⟨xb, 1, none⟩ = some (.map (some cb)) := HM.out.ix.cell1
      have c0 : w1.cell? ⟨w.heap.size + 1, 0, none⟩ = some (.int .i64 c) := (cell_of_row w1 _ 0 _ 54 (0, 0) HM.out.b1).trans rfl
      have c1 : w1.cell? ⟨w.heap.size + 1, 1, none⟩ = some (.int .i64 r) := (cell_of_row w1 _ 1 _ 54 (0, 0) HM.out.b1).trans rfl
      rcases HM.out.ix.inn c r hcs hrs with ⟨hl1, _⟩ | ⟨ib, D, hl1, hI⟩
      · have hck := clook_none (w := w1.drew) (show w1.drew.ownsMap Try.prog 54 Rm cb N Dc from HM.out.ix.cel) hcs hrs hl1
        have HM1 := Lib.hid HM.out.drew
        go_still_tail 6, (by kernel_rfl)
        change wpList _ _ _ _ _ w1.drew
        clear x1 c0 c1 hck HM
        generalize w1.drew = w3 at *
        have b0 : w3.heap[w.heap.size + 1]? = some (.cells #[.int .i64 c, .int .i64 r] 54 (0, 0)) := HM1.out.b1
        have b1 : w3.heap[xb]? = some (.cells #[.map (some hb), .map (some cb)] 52 (0, 0)) := HM1.out.ix.st
        have l0 := (Array.getElem?_eq_some_iff.1 b0).1
        have l1 := (Array.getElem?_eq_some_iff.1 b1).1
        have x1 : w3.cell? ⟨xb, 1, none⟩ = some (.map (some cb)) := HM1.out.ix.cell1
        have c0 : w3.cell? ⟨w.heap.size + 1, 0, none⟩ = some (.int .i64 c) := (cell_of_row w3 _ 0 _ 54 (0, 0) b0).trans rfl
        have c1 : w3.cell? ⟨w.heap.size + 1, 1, none⟩ = some (.int .i64 r) := (cell_of_row w3 _ 1 _ 54 (0, 0) b0).trans rfl
        have x1' : (w3.alloc (.map #[] 0)).cell? ⟨xb, 1, none⟩ = some (.map (some cb)) := (World.cell?_alloc_lt _ _ _ l1).trans x1
        have c0' : (w3.alloc (.map #[] 0)).cell? ⟨w.heap.size + 1, 0, none⟩ = some (.int .i64 c) := (World.cell?_alloc_lt _ _ _ l0).trans c0
        have c1' : (w3.alloc (.map #[] 0)).cell? ⟨w.heap.size + 1, 1, none⟩ = some (.int .i64 r) := (World.cell?_alloc_lt _ _ _ l0).trans c1
        have hcl3 : (w3.alloc (.map #[] 0)).drew.ownsMap Try.prog 54 Rm cb N Dc := HM1.out.ix.cel.alloc _
        obtain ⟨w2, hrun, hown2, hturn2⟩ := hcl3.store kCell Try.underlying50 HMax0.out (ck_of hcs.fits hrs.fits) (show Rm (.map (some w3.heap.size)) = some (bl w3.heap.size, []) from rfl)
        have HM2 := Lib.hid (HM1.out.found HLow.out hcs hrs hN hl1 hown2 hturn2)
        have hmm := @run_makeMap Try.prog
        have HHl := Lib.hid HM2.out.hl
        have HLowH := Lib.hid (HLow.out hb HM1.out.ix.sh)
        have HMax : Hid (N + 1 < maxLen) := Lib.hid (by unfold maxLen; omega)
        clear b0 b1 hcl3 hown2 hturn2 hl1
        go_wp2
        go_region
        go_wp2
        generalize hib : w3.heap.size = ib at *
        clear hrun hmm x1 c0 c1 x1' c0' c1' l0 l1 hib
        have c0 : w2.cell? ⟨w.heap.size + 1, 0, none⟩ = some (.int .i64 c) := (cell_of_row w2 _ 0 _ 54 (0, 0) HM2.out.b1).trans rfl
        have c1 : w2.cell? ⟨w.heap.size + 1, 1, none⟩ = some (.int .i64 r) := (cell_of_row w2 _ 1 _ 54 (0, 0) HM2.out.b1).trans rfl
        have x0 := HM2.out.ix.cell0
        go_still_tail 6, (by kernel_rfl)
        change wpList _ _ _ _ _ w2.drew
        have hown8 : w2.drew.ownsMap Try.prog 3 Rt hb (N + 1) Dh := HM2.out.ix.hom
        have HK8 : Hid (∀ w8 : World, w8.ownsMap Try.prog 3 Rt hb ((N + 1) + 1) (Dh.put (key id) (td c r)) → w2.drew.mapTurned w8 hb → w8.cell? ⟨xb, 1, none⟩ = some (.map (some cb)) ∧ w8.cell? ⟨w.heap.size + 1, 0, none⟩ = some (.int .i64 c) ∧ w8.cell? ⟨w.heap.size + 1, 1, none⟩ = some (.int .i64 r) ∧ w8.cell? ⟨w.heap.size, 0, none⟩ = some (.int .i64 x) ∧ w8.cell? ⟨w.heap.size, 1, none⟩ = some (.int .i64 y) ∧
            Hid (w8.ownsMap Try.prog 3 Rt hb ((N + 1) + 1) (Dh.put (key id) (td c r))) ∧ Hid (w8.ownsMap Try.prog 54 Rm cb (N + 1) (Dc.put (ck c r) (bl ib))) ∧ Hid (w8.ownsMap Try.prog 3 Rt ib (N + 1) (DataW.map [])) ∧ Hid (w8.heap.size = w2.heap.size ∧ (∀ k, k < w2.heap.size → k ≠ hb → w8.heap[k]? = w2.heap[k]?) ∧ w8.os = w2.os ∧ w8.tape = w2.tape ∧ w8.output = w2.output)) := Lib.hid (fun w8 k1 k2 => by
          have hold : ∀ k, k < w2.heap.size → k ≠ hb → w8.heap[k]? = w2.heap[k]? := fun k hk hn => turned_at (w := w2.drew) k2 (k := k) hk hn
          have hhb := HM2.out.low hb (by rcases HM2.out.sub hb HM2.out.ix.sh with e | e; exact e; exact absurd e (by have := HLowH.out; omega))
          have b0 := (hold _ (Array.getElem?_eq_some_iff.1 HM2.out.b0).1 (by omega)).trans HM2.out.b0
          have b1 := (hold _ (Array.getElem?_eq_some_iff.1 HM2.out.b1).1 (by omega)).trans HM2.out.b1
          have bx := (hold xb (HM2.out.ix.low _ HM2.out.ix.sx) HM2.out.ix.x_ne.1).trans HM2.out.ix.st
          exact ⟨(cell_of_row w8 _ 1 _ 52 (0, 0) bx).trans rfl, (cell_of_row w8 _ 0 _ 54 (0, 0) b1).trans rfl, (cell_of_row w8 _ 1 _ 54 (0, 0) b1).trans rfl, (cell_of_row w8 _ 0 _ 32 (0, 0) b0).trans rfl, (cell_of_row w8 _ 1 _ 32 (0, 0) b0).trans rfl, Lib.hid k1, Lib.hid (own_keep HM2.out.ix.cel (hold cb (HM2.out.ix.low _ HM2.out.ix.sc) (Ne.symm HM2.out.ix.ne))), Lib.hid (own_keep HM2.out.inn.own (hold _ (HM2.out.ix.low _ HM2.out.inn.s) HM2.out.inn.nh)), Lib.hid ⟨turned_size (w := w2.drew) k2, hold, k2.grown.os, k2.grown.tape, k2.grown.output⟩⟩)
        go_wp2_with (at_mapUpdate; refine wpList_mapUpdate_in _ rfl _ _ _ 49 rfl 3 54 kInt Try.underlying49 Rt hb (N + 1) Dh rfl hown8 (HMax.out) _ _ (key id) rfl rfl (key_of hf) (td c r) [] (rt_mk c r) ?_; intro w8 hown9 hturn9; obtain ⟨y0, y1, y2, y3, y4, HA8, HC8, HD8, HB8⟩ := HK8.out w8 hown9 hturn9; clear hown9 hturn9 hown8 HK8)
        have hck := clook_some (w := w8.drew) (show w8.drew.ownsMap Try.prog 54 Rm cb (N + 1) (Dc.put (ck c r) (bl ib)) from HC8.out) hcs hrs HHl.out
        go_still_tail 8, (by kernel_rfl)
        change wpList _ _ _ _ _ w8.drew
        have hown9 : w8.drew.ownsMap Try.prog 3 Rt ib (N + 1) (DataW.map []) := HD8.out
        have HK9 : Hid (∀ w9 : World, w9.ownsMap Try.prog 3 Rt ib ((N + 1) + 1) (DataW.put (DataW.map []) (key id) (td x y)) → w8.drew.mapTurned w9 ib → PLeft w S N xb (ins (Cll.del L id) ⟨id, x, y⟩) w9) := Lib.hid (fun w9 k1 k2 => by
          obtain ⟨q1, q2, q3, q4, q5⟩ := HB8.out
          have hold : ∀ k, k < w8.heap.size → k ≠ ib → w9.heap[k]? = w8.heap[k]? := fun k hk hn => turned_at (w := w8.drew) k2 (k := k) hk hn
          exact HM2.out.done HOk.out HC.out HR.out hN (own_keep HA8.out (hold hb (by rw [q1]; exact HM2.out.ix.low _ HM2.out.ix.sh) (Ne.symm HM2.out.inn.nh))) k1 (by rw [turned_size k2]; exact q1) (fun k hk a b => (hold k (by omega) b).trans (q2 k hk a)) ⟨k2.grown.os.trans q3, k2.grown.tape.trans q4, k2.grown.output.trans q5⟩)
        go_wp2_with (at_mapUpdate; refine wpList_mapUpdate_in _ rfl _ _ _ 55 rfl 3 32 kInt Try.underlying55 Rt ib (N + 1) (DataW.map []) rfl hown9 (HMax.out) _ _ (key id) rfl rfl (key_of hf) (td x y) [] (rt_mk x y) ?_; intro w9 hown10 hturn10; have HL := Lib.hid (HK9.out w9 hown10 hturn10); clear hown10 hturn10 hown9 HK9)
        go_ret
        exact ⟨rfl, HL.out⟩
      · have hck := clook_some (w := w1.drew) (show w1.drew.ownsMap Try.prog 54 Rm cb N Dc from HM.out.ix.cel) hcs hrs hl1
        have HM2 := Lib.hid ((HM.out.has HLow.out hl1 hI).drew)
        have HHl := Lib.hid HM2.out.hl
        have HLowH := Lib.hid (HLow.out hb HM.out.ix.sh)
        have HMax := HMax0
        go_still_tail 6, (by kernel_rfl)
        change wpList _ _ _ _ _ w1.drew
        clear x1 c0 c1 hck HM hI hl1
        generalize w1.drew = w2 at *
        go_wp2
        have c0 : w2.cell? ⟨w.heap.size + 1, 0, none⟩ = some (.int .i64 c) := (cell_of_row w2 _ 0 _ 54 (0, 0) HM2.out.b1).trans rfl
        have c1 : w2.cell? ⟨w.heap.size + 1, 1, none⟩ = some (.int .i64 r) := (cell_of_row w2 _ 1 _ 54 (0, 0) HM2.out.b1).trans rfl
        have x0 := HM2.out.ix.cell0
        go_still_tail 6, (by kernel_rfl)
        change wpList _ _ _ _ _ w2.drew
        have hown8 : w2.drew.ownsMap Try.prog 3 Rt hb N Dh := HM2.out.ix.hom
        have HK8 : Hid (∀ w8 : World, w8.ownsMap Try.prog 3 Rt hb (N + 1) (Dh.put (key id) (td c r)) → w2.drew.mapTurned w8 hb → w8.cell? ⟨xb, 1, none⟩ = some (.map (some cb)) ∧ w8.cell? ⟨w.heap.size + 1, 0, none⟩ = some (.int .i64 c) ∧ w8.cell? ⟨w.heap.size + 1, 1, none⟩ = some (.int .i64 r) ∧ w8.cell? ⟨w.heap.size, 0, none⟩ = some (.int .i64 x) ∧ w8.cell? ⟨w.heap.size, 1, none⟩ = some (.int .i64 y) ∧
            Hid (w8.ownsMap Try.prog 3 Rt hb (N + 1) (Dh.put (key id) (td c r))) ∧ Hid (w8.ownsMap Try.prog 54 Rm cb N Dc) ∧ Hid (w8.ownsMap Try.prog 3 Rt ib N D) ∧ Hid (w8.heap.size = w2.heap.size ∧ (∀ k, k < w2.heap.size → k ≠ hb → w8.heap[k]? = w2.heap[k]?) ∧ w8.os = w2.os ∧ w8.tape = w2.tape ∧ w8.output = w2.output)) := Lib.hid (fun w8 k1 k2 => by
          have hold : ∀ k, k < w2.heap.size → k ≠ hb → w8.heap[k]? = w2.heap[k]? := fun k hk hn => turned_at (w := w2.drew) k2 (k := k) hk hn
          have hhb := HM2.out.low hb (by rcases HM2.out.sub hb HM2.out.ix.sh with e | e; exact e; exact absurd e (by have := HLowH.out; omega))
          have b0 := (hold _ (Array.getElem?_eq_some_iff.1 HM2.out.b0).1 (by omega)).trans HM2.out.b0
          have b1 := (hold _ (Array.getElem?_eq_some_iff.1 HM2.out.b1).1 (by omega)).trans HM2.out.b1
          have bx := (hold xb (HM2.out.ix.low _ HM2.out.ix.sx) HM2.out.ix.x_ne.1).trans HM2.out.ix.st
          exact ⟨(cell_of_row w8 _ 1 _ 52 (0, 0) bx).trans rfl, (cell_of_row w8 _ 0 _ 54 (0, 0) b1).trans rfl, (cell_of_row w8 _ 1 _ 54 (0, 0) b1).trans rfl, (cell_of_row w8 _ 0 _ 32 (0, 0) b0).trans rfl, (cell_of_row w8 _ 1 _ 32 (0, 0) b0).trans rfl, Lib.hid k1, Lib.hid (own_keep HM2.out.ix.cel (hold cb (HM2.out.ix.low _ HM2.out.ix.sc) (Ne.symm HM2.out.ix.ne))), Lib.hid (own_keep HM2.out.inn.own (hold _ (HM2.out.ix.low _ HM2.out.inn.s) HM2.out.inn.nh)), Lib.hid ⟨turned_size (w := w2.drew) k2, hold, k2.grown.os, k2.grown.tape, k2.grown.output⟩⟩)
        go_wp2_with (at_mapUpdate; refine wpList_mapUpdate_in _ rfl _ _ _ 49 rfl 3 54 kInt Try.underlying49 Rt hb N Dh rfl hown8 (HMax.out) _ _ (key id) rfl rfl (key_of hf) (td c r) [] (rt_mk c r) ?_; intro w8 hown9 hturn9; obtain ⟨y0, y1, y2, y3, y4, HA8, HC8, HD8, HB8⟩ := HK8.out w8 hown9 hturn9; clear hown9 hturn9 hown8 HK8)
        have hck := clook_some (w := w8.drew) (show w8.drew.ownsMap Try.prog 54 Rm cb N Dc from HC8.out) hcs hrs HHl.out
        go_still_tail 8, (by kernel_rfl)
        change wpList _ _ _ _ _ w8.drew
        have hown9 : w8.drew.ownsMap Try.prog 3 Rt ib N D := HD8.out
        have HK9 : Hid (∀ w9 : World, w9.ownsMap Try.prog 3 Rt ib (N + 1) (DataW.put D (key id) (td x y)) → w8.drew.mapTurned w9 ib → PLeft w S N xb (ins (Cll.del L id) ⟨id, x, y⟩) w9) := Lib.hid (fun w9 k1 k2 => by
          obtain ⟨q1, q2, q3, q4, q5⟩ := HB8.out
          have hold : ∀ k, k < w8.heap.size → k ≠ ib → w9.heap[k]? = w8.heap[k]? := fun k hk hn => turned_at (w := w8.drew) k2 (k := k) hk hn
          exact HM2.out.done HOk.out HC.out HR.out hN (own_keep HA8.out (hold hb (by rw [q1]; exact HM2.out.ix.low _ HM2.out.ix.sh) (Ne.symm HM2.out.inn.nh))) k1 (by rw [turned_size k2]; exact q1) (fun k hk a b => (hold k (by omega) b).trans (q2 k hk a)) ⟨k2.grown.os.trans q3, k2.grown.tape.trans q4, k2.grown.output.trans q5⟩)
        go_wp2_with (at_mapUpdate; refine wpList_mapUpdate_in _ rfl _ _ _ 55 rfl 3 32 kInt Try.underlying55 Rt ib N D rfl hown9 (HMax.out) _ _ (key id) rfl rfl (key_of hf) (td x y) [] (rt_mk x y) ?_; intro w9 hown10 hturn10; have HL := Lib.hid (HK9.out w9 hown10 hturn10); clear hown10 hturn10 hown9 HK9)
        go_ret
        exact ⟨rfl, HL.out⟩

    · skip
      have hneq := neq_pair (s.x / 16) (s.y / 16) c r true (by simp only [decide_eq_true_eq]; exact hh)
      have HMn := Lib.hid (fun w1 => mid_yes (w1 := w1) (x := x) (y := y) (c := c) (r := r) (id := id) h)
      have hdn := drop_yes (h.step g3.drew) id hf s hl
      generalize s.x / 16 = c0 at hlk hneq
      generalize s.y / 16 = r0 at hlk hneq
      have cc0 : ((w.alloc (.cells #[.int .i64 x, .int .i64 y] 32)).alloc (.cells #[.int .i64 c, .int .i64 r] 54)).cell? ⟨w.heap.size + 1, 0, none⟩ = some (.int .i64 c) := (cell_of_row _ _ 0 _ 54 (0, 0) g2).trans rfl
      have cc1 : ((w.alloc (.cells #[.int .i64 x, .int .i64 y] 32)).alloc (.cells #[.int .i64 c, .int .i64 r] 54)).cell? ⟨w.heap.size + 1, 1, none⟩ = some (.int .i64 r) := (cell_of_row _ _ 1 _ 54 (0, 0) g2).trans rfl
      clear hh hl g1 g2 g3 g4 h
      go_enter Try.func8, Try.ntmps8
      go_wp2_with (first
        | ((with_reducible refine (side_any x _).mono ?_); rintro e w' ⟨rfl, rfl⟩; rw [hxo]; clear hxo)
        | ((with_reducible refine (side_any y _).mono ?_); rintro e w' ⟨rfl, rfl⟩; rw [hyo]; clear hyo))
      generalize ((w.alloc (.cells #[.int .i64 x, .int .i64 y] 32)).alloc (.cells #[.int .i64 c, .int .i64 r] 54)) = w0 at *
      go_still_tail 7, (by kernel_rfl)
      change wpList _ _ _ _ _ w0.drew
      clear hx0 hx1 hlk cc0 cc1
      generalize w0.drew = w1' at *
      go_wp2_with ((refine hdn.mono ?_); rintro e w1 ⟨rfl, hbd⟩; obtain ⟨Dh2, Dc2, HM0⟩ := HMn.out w1 hbd; have HM := Lib.hid HM0; clear HM0 hbd HMn hdn)

      have x1 : w1.cell? ⟨xb, 1, none⟩ = some (.map (some cb)) := HM.out.ix.cell1
      have c0 : w1.cell? ⟨w.heap.size + 1, 0, none⟩ = some (.int .i64 c) := (cell_of_row w1 _ 0 _ 54 (0, 0) HM.out.b1).trans rfl
      have c1 : w1.cell? ⟨w.heap.size + 1, 1, none⟩ = some (.int .i64 r) := (cell_of_row w1 _ 1 _ 54 (0, 0) HM.out.b1).trans rfl
      rcases HM.out.ix.inn c r hcs hrs with ⟨hl1, _⟩ | ⟨ib, D, hl1, hI⟩
      · have hck := clook_none (w := w1.drew) (show w1.drew.ownsMap Try.prog 54 Rm cb N Dc2 from HM.out.ix.cel) hcs hrs hl1
        have HM1 := Lib.hid HM.out.drew
        go_still_tail 6, (by kernel_rfl)
        change wpList _ _ _ _ _ w1.drew
        clear x1 c0 c1 hck HM
        generalize w1.drew = w3 at *
        have b0 : w3.heap[w.heap.size + 1]? = some (.cells #[.int .i64 c, .int .i64 r] 54 (0, 0)) := HM1.out.b1
        have b1 : w3.heap[xb]? = some (.cells #[.map (some hb), .map (some cb)] 52 (0, 0)) := HM1.out.ix.st
        have l0 := (Array.getElem?_eq_some_iff.1 b0).1
        have l1 := (Array.getElem?_eq_some_iff.1 b1).1
        have x1 : w3.cell? ⟨xb, 1, none⟩ = some (.map (some cb)) := HM1.out.ix.cell1
        have c0 : w3.cell? ⟨w.heap.size + 1, 0, none⟩ = some (.int .i64 c) := (cell_of_row w3 _ 0 _ 54 (0, 0) b0).trans rfl
        have c1 : w3.cell? ⟨w.heap.size + 1, 1, none⟩ = some (.int .i64 r) := (cell_of_row w3 _ 1 _ 54 (0, 0) b0).trans rfl
        have x1' : (w3.alloc (.map #[] 0)).cell? ⟨xb, 1, none⟩ = some (.map (some cb)) := (World.cell?_alloc_lt _ _ _ l1).trans x1
        have c0' : (w3.alloc (.map #[] 0)).cell? ⟨w.heap.size + 1, 0, none⟩ = some (.int .i64 c) := (World.cell?_alloc_lt _ _ _ l0).trans c0
        have c1' : (w3.alloc (.map #[] 0)).cell? ⟨w.heap.size + 1, 1, none⟩ = some (.int .i64 r) := (World.cell?_alloc_lt _ _ _ l0).trans c1
        have hcl3 : (w3.alloc (.map #[] 0)).drew.ownsMap Try.prog 54 Rm cb N Dc2 := HM1.out.ix.cel.alloc _
        obtain ⟨w2, hrun, hown2, hturn2⟩ := hcl3.store kCell Try.underlying50 HMax0.out (ck_of hcs.fits hrs.fits) (show Rm (.map (some w3.heap.size)) = some (bl w3.heap.size, []) from rfl)
        have HM2 := Lib.hid (HM1.out.found HLow.out hcs hrs hN hl1 hown2 hturn2)
        have hmm := @run_makeMap Try.prog
        have HHl := Lib.hid HM2.out.hl
        have HLowH := Lib.hid (HLow.out hb HM1.out.ix.sh)
        have HMax : Hid (N + 1 < maxLen) := Lib.hid (by unfold maxLen; omega)
        clear b0 b1 hcl3 hown2 hturn2 hl1
        go_wp2
        go_region
        go_wp2
        generalize hib : w3.heap.size = ib at *
        clear hrun hmm x1 c0 c1 x1' c0' c1' l0 l1 hib
        have c0 : w2.cell? ⟨w.heap.size + 1, 0, none⟩ = some (.int .i64 c) := (cell_of_row w2 _ 0 _ 54 (0, 0) HM2.out.b1).trans rfl
        have c1 : w2.cell? ⟨w.heap.size + 1, 1, none⟩ = some (.int .i64 r) := (cell_of_row w2 _ 1 _ 54 (0, 0) HM2.out.b1).trans rfl
        have x0 := HM2.out.ix.cell0
        go_still_tail 6, (by kernel_rfl)
        change wpList _ _ _ _ _ w2.drew
        have hown8 : w2.drew.ownsMap Try.prog 3 Rt hb (N + 1) Dh2 := HM2.out.ix.hom
        have HK8 : Hid (∀ w8 : World, w8.ownsMap Try.prog 3 Rt hb ((N + 1) + 1) (Dh2.put (key id) (td c r)) → w2.drew.mapTurned w8 hb → w8.cell? ⟨xb, 1, none⟩ = some (.map (some cb)) ∧ w8.cell? ⟨w.heap.size + 1, 0, none⟩ = some (.int .i64 c) ∧ w8.cell? ⟨w.heap.size + 1, 1, none⟩ = some (.int .i64 r) ∧ w8.cell? ⟨w.heap.size, 0, none⟩ = some (.int .i64 x) ∧ w8.cell? ⟨w.heap.size, 1, none⟩ = some (.int .i64 y) ∧
            Hid (w8.ownsMap Try.prog 3 Rt hb ((N + 1) + 1) (Dh2.put (key id) (td c r))) ∧ Hid (w8.ownsMap Try.prog 54 Rm cb (N + 1) (Dc2.put (ck c r) (bl ib))) ∧ Hid (w8.ownsMap Try.prog 3 Rt ib (N + 1) (DataW.map [])) ∧ Hid (w8.heap.size = w2.heap.size ∧ (∀ k, k < w2.heap.size → k ≠ hb → w8.heap[k]? = w2.heap[k]?) ∧ w8.os = w2.os ∧ w8.tape = w2.tape ∧ w8.output = w2.output)) := Lib.hid (fun w8 k1 k2 => by
          have hold : ∀ k, k < w2.heap.size → k ≠ hb → w8.heap[k]? = w2.heap[k]? := fun k hk hn => turned_at (w := w2.drew) k2 (k := k) hk hn
          have hhb := HM2.out.low hb (by rcases HM2.out.sub hb HM2.out.ix.sh with e | e; exact e; exact absurd e (by have := HLowH.out; omega))
          have b0 := (hold _ (Array.getElem?_eq_some_iff.1 HM2.out.b0).1 (by omega)).trans HM2.out.b0
          have b1 := (hold _ (Array.getElem?_eq_some_iff.1 HM2.out.b1).1 (by omega)).trans HM2.out.b1
          have bx := (hold xb (HM2.out.ix.low _ HM2.out.ix.sx) HM2.out.ix.x_ne.1).trans HM2.out.ix.st
          exact ⟨(cell_of_row w8 _ 1 _ 52 (0, 0) bx).trans rfl, (cell_of_row w8 _ 0 _ 54 (0, 0) b1).trans rfl, (cell_of_row w8 _ 1 _ 54 (0, 0) b1).trans rfl, (cell_of_row w8 _ 0 _ 32 (0, 0) b0).trans rfl, (cell_of_row w8 _ 1 _ 32 (0, 0) b0).trans rfl, Lib.hid k1, Lib.hid (own_keep HM2.out.ix.cel (hold cb (HM2.out.ix.low _ HM2.out.ix.sc) (Ne.symm HM2.out.ix.ne))), Lib.hid (own_keep HM2.out.inn.own (hold _ (HM2.out.ix.low _ HM2.out.inn.s) HM2.out.inn.nh)), Lib.hid ⟨turned_size (w := w2.drew) k2, hold, k2.grown.os, k2.grown.tape, k2.grown.output⟩⟩)
        go_wp2_with (at_mapUpdate; refine wpList_mapUpdate_in _ rfl _ _ _ 49 rfl 3 54 kInt Try.underlying49 Rt hb (N + 1) Dh2 rfl hown8 (HMax.out) _ _ (key id) rfl rfl (key_of hf) (td c r) [] (rt_mk c r) ?_; intro w8 hown9 hturn9; obtain ⟨y0, y1, y2, y3, y4, HA8, HC8, HD8, HB8⟩ := HK8.out w8 hown9 hturn9; clear hown9 hturn9 hown8 HK8)
        have hck := clook_some (w := w8.drew) (show w8.drew.ownsMap Try.prog 54 Rm cb (N + 1) (Dc2.put (ck c r) (bl ib)) from HC8.out) hcs hrs HHl.out
        go_still_tail 8, (by kernel_rfl)
        change wpList _ _ _ _ _ w8.drew
        have hown9 : w8.drew.ownsMap Try.prog 3 Rt ib (N + 1) (DataW.map []) := HD8.out
        have HK9 : Hid (∀ w9 : World, w9.ownsMap Try.prog 3 Rt ib ((N + 1) + 1) (DataW.put (DataW.map []) (key id) (td x y)) → w8.drew.mapTurned w9 ib → PLeft w S N xb (ins (Cll.del L id) ⟨id, x, y⟩) w9) := Lib.hid (fun w9 k1 k2 => by
          obtain ⟨q1, q2, q3, q4, q5⟩ := HB8.out
          have hold : ∀ k, k < w8.heap.size → k ≠ ib → w9.heap[k]? = w8.heap[k]? := fun k hk hn => turned_at (w := w8.drew) k2 (k := k) hk hn
          exact HM2.out.done HOk.out HC.out HR.out hN (own_keep HA8.out (hold hb (by rw [q1]; exact HM2.out.ix.low _ HM2.out.ix.sh) (Ne.symm HM2.out.inn.nh))) k1 (by rw [turned_size k2]; exact q1) (fun k hk a b => (hold k (by omega) b).trans (q2 k hk a)) ⟨k2.grown.os.trans q3, k2.grown.tape.trans q4, k2.grown.output.trans q5⟩)
        go_wp2_with (at_mapUpdate; refine wpList_mapUpdate_in _ rfl _ _ _ 55 rfl 3 32 kInt Try.underlying55 Rt ib (N + 1) (DataW.map []) rfl hown9 (HMax.out) _ _ (key id) rfl rfl (key_of hf) (td x y) [] (rt_mk x y) ?_; intro w9 hown10 hturn10; have HL := Lib.hid (HK9.out w9 hown10 hturn10); clear hown10 hturn10 hown9 HK9)
        go_ret
        exact ⟨rfl, HL.out⟩
      · have hck := clook_some (w := w1.drew) (show w1.drew.ownsMap Try.prog 54 Rm cb N Dc2 from HM.out.ix.cel) hcs hrs hl1
        have HM2 := Lib.hid ((HM.out.has HLow.out hl1 hI).drew)
        have HHl := Lib.hid HM2.out.hl
        have HLowH := Lib.hid (HLow.out hb HM.out.ix.sh)
        have HMax := HMax0
        go_still_tail 6, (by kernel_rfl)
        change wpList _ _ _ _ _ w1.drew
        clear x1 c0 c1 hck HM hI hl1
        generalize w1.drew = w2 at *
        go_wp2
        have c0 : w2.cell? ⟨w.heap.size + 1, 0, none⟩ = some (.int .i64 c) := (cell_of_row w2 _ 0 _ 54 (0, 0) HM2.out.b1).trans rfl
        have c1 : w2.cell? ⟨w.heap.size + 1, 1, none⟩ = some (.int .i64 r) := (cell_of_row w2 _ 1 _ 54 (0, 0) HM2.out.b1).trans rfl
        have x0 := HM2.out.ix.cell0
        go_still_tail 6, (by kernel_rfl)
        change wpList _ _ _ _ _ w2.drew
        have hown8 : w2.drew.ownsMap Try.prog 3 Rt hb N Dh2 := HM2.out.ix.hom
        have HK8 : Hid (∀ w8 : World, w8.ownsMap Try.prog 3 Rt hb (N + 1) (Dh2.put (key id) (td c r)) → w2.drew.mapTurned w8 hb → w8.cell? ⟨xb, 1, none⟩ = some (.map (some cb)) ∧ w8.cell? ⟨w.heap.size + 1, 0, none⟩ = some (.int .i64 c) ∧ w8.cell? ⟨w.heap.size + 1, 1, none⟩ = some (.int .i64 r) ∧ w8.cell? ⟨w.heap.size, 0, none⟩ = some (.int .i64 x) ∧ w8.cell? ⟨w.heap.size, 1, none⟩ = some (.int .i64 y) ∧
            Hid (w8.ownsMap Try.prog 3 Rt hb (N + 1) (Dh2.put (key id) (td c r))) ∧ Hid (w8.ownsMap Try.prog 54 Rm cb N Dc2) ∧ Hid (w8.ownsMap Try.prog 3 Rt ib N D) ∧ Hid (w8.heap.size = w2.heap.size ∧ (∀ k, k < w2.heap.size → k ≠ hb → w8.heap[k]? = w2.heap[k]?) ∧ w8.os = w2.os ∧ w8.tape = w2.tape ∧ w8.output = w2.output)) := Lib.hid (fun w8 k1 k2 => by
          have hold : ∀ k, k < w2.heap.size → k ≠ hb → w8.heap[k]? = w2.heap[k]? := fun k hk hn => turned_at (w := w2.drew) k2 (k := k) hk hn
          have hhb := HM2.out.low hb (by rcases HM2.out.sub hb HM2.out.ix.sh with e | e; exact e; exact absurd e (by have := HLowH.out; omega))
          have b0 := (hold _ (Array.getElem?_eq_some_iff.1 HM2.out.b0).1 (by omega)).trans HM2.out.b0
          have b1 := (hold _ (Array.getElem?_eq_some_iff.1 HM2.out.b1).1 (by omega)).trans HM2.out.b1
          have bx := (hold xb (HM2.out.ix.low _ HM2.out.ix.sx) HM2.out.ix.x_ne.1).trans HM2.out.ix.st
          exact ⟨(cell_of_row w8 _ 1 _ 52 (0, 0) bx).trans rfl, (cell_of_row w8 _ 0 _ 54 (0, 0) b1).trans rfl, (cell_of_row w8 _ 1 _ 54 (0, 0) b1).trans rfl, (cell_of_row w8 _ 0 _ 32 (0, 0) b0).trans rfl, (cell_of_row w8 _ 1 _ 32 (0, 0) b0).trans rfl, Lib.hid k1, Lib.hid (own_keep HM2.out.ix.cel (hold cb (HM2.out.ix.low _ HM2.out.ix.sc) (Ne.symm HM2.out.ix.ne))), Lib.hid (own_keep HM2.out.inn.own (hold _ (HM2.out.ix.low _ HM2.out.inn.s) HM2.out.inn.nh)), Lib.hid ⟨turned_size (w := w2.drew) k2, hold, k2.grown.os, k2.grown.tape, k2.grown.output⟩⟩)
        go_wp2_with (at_mapUpdate; refine wpList_mapUpdate_in _ rfl _ _ _ 49 rfl 3 54 kInt Try.underlying49 Rt hb N Dh2 rfl hown8 (HMax.out) _ _ (key id) rfl rfl (key_of hf) (td c r) [] (rt_mk c r) ?_; intro w8 hown9 hturn9; obtain ⟨y0, y1, y2, y3, y4, HA8, HC8, HD8, HB8⟩ := HK8.out w8 hown9 hturn9; clear hown9 hturn9 hown8 HK8)
        have hck := clook_some (w := w8.drew) (show w8.drew.ownsMap Try.prog 54 Rm cb N Dc2 from HC8.out) hcs hrs HHl.out
        go_still_tail 8, (by kernel_rfl)
        change wpList _ _ _ _ _ w8.drew
        have hown9 : w8.drew.ownsMap Try.prog 3 Rt ib N D := HD8.out
        have HK9 : Hid (∀ w9 : World, w9.ownsMap Try.prog 3 Rt ib (N + 1) (DataW.put D (key id) (td x y)) → w8.drew.mapTurned w9 ib → PLeft w S N xb (ins (Cll.del L id) ⟨id, x, y⟩) w9) := Lib.hid (fun w9 k1 k2 => by
          obtain ⟨q1, q2, q3, q4, q5⟩ := HB8.out
          have hold : ∀ k, k < w8.heap.size → k ≠ ib → w9.heap[k]? = w8.heap[k]? := fun k hk hn => turned_at (w := w8.drew) k2 (k := k) hk hn
          exact HM2.out.done HOk.out HC.out HR.out hN (own_keep HA8.out (hold hb (by rw [q1]; exact HM2.out.ix.low _ HM2.out.ix.sh) (Ne.symm HM2.out.inn.nh))) k1 (by rw [turned_size k2]; exact q1) (fun k hk a b => (hold k (by omega) b).trans (q2 k hk a)) ⟨k2.grown.os.trans q3, k2.grown.tape.trans q4, k2.grown.output.trans q5⟩)
        go_wp2_with (at_mapUpdate; refine wpList_mapUpdate_in _ rfl _ _ _ 55 rfl 3 32 kInt Try.underlying55 Rt ib N D rfl hown9 (HMax.out) _ _ (key id) rfl rfl (key_of hf) (td x y) [] (rt_mk x y) ?_; intro w9 hown10 hturn10; have HL := Lib.hid (HK9.out w9 hown10 hturn10); clear hown10 hturn10 hown9 HK9)
        go_ret
        exact ⟨rfl, HL.out⟩

end
end Go.Proofs.Ytehllnbpianpfaa.Con
