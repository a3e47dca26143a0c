/-
  The contract of the index's Drop: the unit is there no more, whatever its cell holds.
-/
import Derived.Test.YtehllnbpianpfaaIdx
import Derived.StillTailTactics
import Derived.RegionTactic
import Derived.BigQuiet
namespace Go.Proofs.Ytehllnbpianpfaa.Con
open Go.RowKit Cll Go.Maps

/-- A unit is struck from both maps. -/
theorem dropped {w w' : World} {S : Nat → Prop} {N xb hb cb ib : Nat} {Dh Dc Dc' D : DataW Unit} {L : List Un} {id : Int} {t : Un} (h : IX w S N xb hb cb Dh Dc L) (ht : lk L id = some t)
    (hl : look Dc (ck (t.x / 16) (t.y / 16)) = some (bl ib)) (hI : In w S N hb cb ib D L (t.x / 16) (t.y / 16)) (hs : w.heap.size ≤ w'.heap.size) (hst : w'.heap[xb]? = w.heap[xb]?)
    (hh : w'.ownsMap Try.prog 3 Rt hb N (Dh.del (key id))) (hc : w'.ownsMap Try.prog 54 Rm cb N Dc') (hi : w'.ownsMap Try.prog 3 Rt ib N (D.del (key id)))
    (ho : ∀ b, S b → b ≠ hb → b ≠ cb → b ≠ ib → w'.heap[b]? = w.heap[b]?) (hD : Dc' = Dc ∨ (Maps.size (D.del (key id)) = 0 ∧ Dc' = Dc.del (ck (t.x / 16) (t.y / 16)))) : IX w' S N xb hb cb (Dh.del (key id)) Dc' (del L id) := by
  obtain ⟨hx, hy, _⟩ := h.home ht
  have hat : ∀ k, look (D.del (key id)) (key k) = (lk (del L id) k).bind (fun s => if s.x / 16 = t.x / 16 ∧ s.y / 16 = t.y / 16 then some (td s.x s.y) else none) := by
    intro k
    rw [lk_del h.good]
    by_cases e : k = id
    · subst e
      rw [look_del, if_pos rfl]; rfl
    · rw [look_del_ne (key_ne e), if_neg e, hI.at']
  refine ⟨hst.trans h.st, h.sx, h.sh, h.sc, h.ne, hh, hc, ?_, ?_, ?_, ?_, h.good.del id, Nat.le_trans (del_len L id) h.len, fun b hb => Nat.lt_of_lt_of_le (h.low b hb) hs, h.cap⟩
  · intro k
    rw [lk_del h.good]
    by_cases e : k = id
    · subst e
      rw [look_del, if_pos rfl]; rfl
    · rw [look_del_ne (key_ne e), if_neg e, h.homv]
  · intro kl d hk
    rcases hD with rfl | ⟨_, rfl⟩
    · exact h.keys kl d hk
    · by_cases e : kl = ck (t.x / 16) (t.y / 16)
      · subst e; rw [look_del] at hk; cases hk
      · rw [look_del_ne e] at hk; exact h.keys kl d hk
  · intro c r hc' hr'
    by_cases e : ck c r = ck (t.x / 16) (t.y / 16)
    · obtain ⟨rfl, rfl⟩ := ck_inj hc'.fits hr'.fits hx.fits hy.fits e
      rcases hD with rfl | ⟨h0, rfl⟩
      · exact .inr ⟨ib, _, hl, ⟨hI.s, hI.nh, hI.nc, hi, hat⟩⟩
      · refine .inl ⟨look_del, fun s hs hcc => ?_⟩
        have h1 := hat s.id
        rw [look_size0 h0, lk_of (h.good.del id) hs rfl] at h1
        simp [hcc] at h1
    · have el : look Dc' (ck c r) = look Dc (ck c r) := by
        rcases hD with rfl | ⟨_, rfl⟩
        · rfl
        · exact look_del_ne e
      rcases h.inn c r hc' hr' with ⟨h1, h2⟩ | ⟨b, D', h1, h2⟩
      · exact .inl ⟨el.trans h1, fun s hs => h2 s (mem_del.1 hs).1⟩
      · refine .inr ⟨b, D', el.trans h1, ⟨h2.s, h2.nh, h2.nc, own_keep h2.own (ho b h2.s h2.nh h2.nc (fun eb => e (h.apart _ _ ib (by rw [h1, eb]) hl))), fun k => ?_⟩⟩
        rw [lk_del h.good, h2.at']
        by_cases ek : k = id
        · subst ek
          rw [if_pos rfl, ht]
          have : ¬ (t.x / 16 = c ∧ t.y / 16 = r) := by rintro ⟨rfl, rfl⟩; exact e rfl
          simp [this]
        · rw [if_neg ek]
  · intro k1 k2 b h1 h2
    rcases hD with rfl | ⟨_, rfl⟩
    · exact h.apart k1 k2 b h1 h2
    · have f : ∀ k, look (Dc.del (ck (t.x / 16) (t.y / 16))) k = some (bl b) → look Dc k = some (bl b) := by
        intro k hk
        by_cases e : k = ck (t.x / 16) (t.y / 16)
        · subst e; rw [look_del] at hk; cases hk
        · rw [look_del_ne e] at hk; exact hk
      exact h.apart k1 k2 b (f k1 h1) (f k2 h2)

/-- What Drop leaves. -/
def Left (w : World) (S : Nat → Prop) (N xb hb cb : Nat) (L' : List Un) (w' : World) : Prop := ∃ Dh' Dc', Hid (IX w' S N xb hb cb Dh' Dc' L') ∧ Hid (OffP w w' S)
section
variable {w : World} {S : Nat → Prop} {N xb hb cb : Nat} {Dh Dc : DataW Unit} {L : List Un}
set_option maxHeartbeats 4000000 in
theorem drop_no (h : IX w S N xb hb cb Dh Dc L) (id : Int) (hf : Fits id) (hn : lk L id = none) : Calls Try.prog 10 #[.pointer (some ⟨xb, 0, none⟩), .int .i64 id] w fun e w' => e = .returned (.bool false) ∧ Below w.heap.size w w' := by
  have hc0 := h.cell0
  have hlk := hlook_none h hf hn true
  simp only [if_true] at hlk
  have hlt := h.lt
  clear h hn
  go_enter Try.func10, Try.ntmps10
  go_wp2
  go_ret
  exact ⟨rfl, (Below.refl _ w).alloc (Nat.le_refl _) _⟩
/-- Where only one block turns, what lies elsewhere stays. -/
theorem turned_at {w w' : World} {b k : Nat} (h : w.mapTurned w' b) (hk : k < w.heap.size) (hne : k ≠ b) : w'.heap[k]? = w.heap[k]? := h.grown.block k hk (fun e => hne (by injection e))
theorem turned_size {w w' : World} {b : Nat} (h : w.mapTurned w' b) : w'.heap.size = w.heap.size := by
  obtain ⟨es, cl, es', cl', _, rfl⟩ := h
  simp [Go.ChangeMaps.setBlock]
theorem off_turned {w w' : World} {S : Nat → Prop} {b : Nat} (h : w.mapTurned w' b) (hb : S b) : OffP w w' S := OffP.of_grown h.grown (fun k e => by injection e with e; exact e ▸ hb)
set_option maxHeartbeats 4000000 in
theorem drop_yes (h : IX w S N xb hb cb Dh Dc L) (id : Int) (hf : Fits id) (t : Un) (ht : lk L id = some t) : Calls Try.prog 10 #[.pointer (some ⟨xb, 0, none⟩), .int .i64 id] w fun e w' => e = .returned (.bool true) ∧ Left w S N xb hb cb (del L id) w' := by
  obtain ⟨hx, hy, ib, D, hl, hI⟩ := h.home ht
  have hdr := @dropped w
  have HDr := Lib.hid (fun w' Dc' => dropped (w' := w') (Dc' := Dc') h ht hl hI)
  have hc0 := h.cell0
  have hlk := hlook_some h hf ht true
  simp only [if_true] at hlk
  obtain ⟨c, hc⟩ : ∃ c, t.x / 16 = c := ⟨_, rfl⟩
  obtain ⟨r, hr⟩ : ∃ r, t.y / 16 = r := ⟨_, rfl⟩
  rw [hc] at hx; rw [hr] at hy
  rw [hc, hr] at hlk hl hI HDr
  clear hc hr hdr
  have hlt := h.lt
  -- behind the box
  have hb1 : Below w.heap.size w (w.alloc (.cells #[.int .i64 c, .int .i64 r] 54)) := (Below.refl _ w).alloc (Nat.le_refl _) _
  have hx1 := h.step hb1
  have hbox : (w.alloc (.cells #[.int .i64 c, .int .i64 r] 54)).heap[w.heap.size]? = some (.cells #[.int .i64 c, .int .i64 r] 54 (0, 0)) := heap_alloc_new w _
  have hs1 : (w.alloc (.cells #[.int .i64 c, .int .i64 r] 54)).heap.size = w.heap.size + 1 := by simp
  have hI1 : In (w.alloc (.cells #[.int .i64 c, .int .i64 r] 54)) S N hb cb ib D L c r := hI.keep (hb1.block ib (h.low ib hI.s))
  have hib := h.low ib hI.s
  have hhb := h.low hb h.sh
  have hcb := h.low cb h.sc
  have xne := h.x_ne
  have ine := hI.x_ne h
  have hsx := h.sx; have hsh := h.sh; have hsc := h.sc; have hsi := hI.s; have hnh := hI.nh; have hnc := hI.nc; have hne := h.ne
  have HLow := Lib.hid h.low
  -- behind the first delete
  have HK2 : Hid (∀ w2 : World, w2.ownsMap Try.prog 3 Rt hb N (Dh.del (key id)) → (w.alloc (.cells #[.int .i64 c, .int .i64 r] 54)).mapTurned w2 hb →
      w2.cell? ⟨xb, 1, none⟩ = some (.map (some cb)) ∧ w2.cell? ⟨w.heap.size, 0, none⟩ = some (.int .i64 c) ∧ w2.cell? ⟨w.heap.size, 1, none⟩ = some (.int .i64 r) ∧
      Hid (w2.ownsMap Try.prog 54 Rm cb N Dc) ∧ Hid (w2.ownsMap Try.prog 3 Rt ib N D) ∧ Hid (w2.ownsMap Try.prog 3 Rt hb N (Dh.del (key id))) ∧ Hid (OffP w w2 S) ∧ Hid (w2.heap.size = w.heap.size + 1 ∧ ∀ k, k ≤ w.heap.size → k ≠ hb → w2.heap[k]? = (w.alloc (.cells #[.int .i64 c, .int .i64 r] 54)).heap[k]?)) := Lib.hid (fun w2 k1 k2 => by
    have e0 := turned_at k2 (k := w.heap.size) (by omega) (by omega)
    have e1 := turned_at k2 (k := xb) (by omega) xne.1
    have hst := e1.trans hx1.st
    have hbx := e0.trans hbox
    refine ⟨(cell_of_row w2 xb 1 _ 52 (0, 0) hst).trans rfl, (cell_of_row w2 _ 0 _ 54 (0, 0) hbx).trans rfl, (cell_of_row w2 _ 1 _ 54 (0, 0) hbx).trans rfl, Lib.hid (own_keep hx1.cel (turned_at k2 (by omega) (Ne.symm hne))), Lib.hid (own_keep hI1.own (turned_at k2 (by omega) hnh)), Lib.hid k1, Lib.hid (((OffP.refl w S).alloc _).same (off_turned k2 hsh)), Lib.hid ⟨by rw [turned_size k2, hs1], fun k hk hn => turned_at k2 (by omega) hn⟩⟩)
  have hown1 := hx1.hom
  have HH := Lib.hid h
  clear h hx1 hI1 hb1 hbox hI
  go_enter Try.func10, Try.ntmps10
  go_wp2_with (at_delete; refine wpList_delete_own _ rfl _ _ 49 3 rfl 54 kInt Try.underlying49 Rt hb N Dh rfl hown1 _ (key id) rfl (key_of hf) ?_; intro w2 hown2 hturn2; obtain ⟨y0, y1, y2, HC2, HI2, HHm2, HO2, HB2⟩ := HK2.out w2 hown2 hturn2; clear hown2 hturn2 hown1)
  have hck := clook_some (w := w2.drew) (show w2.drew.ownsMap Try.prog 54 Rm cb N Dc from HC2.out) hx hy hl
  go_still_tail 7, (by kernel_rfl)
  change wpList _ _ _ _ _ w2.drew
  have HK3 : Hid (∀ w3 : World, w3.ownsMap Try.prog 3 Rt ib N (D.del (key id)) → w2.drew.mapTurned w3 ib →
      w3.cell? ⟨xb, 1, none⟩ = some (.map (some cb)) ∧ w3.cell? ⟨w.heap.size, 0, none⟩ = some (.int .i64 c) ∧ w3.cell? ⟨w.heap.size, 1, none⟩ = some (.int .i64 r) ∧
      Hid (w3.ownsMap Try.prog 54 Rm cb N Dc) ∧ Hid (w3.ownsMap Try.prog 3 Rt ib N (D.del (key id))) ∧ Hid (w3.ownsMap Try.prog 3 Rt hb N (Dh.del (key id))) ∧ Hid (OffP w w3 S) ∧ Hid (w3.heap.size = w.heap.size + 1 ∧ ∀ k, k ≤ w.heap.size → k ≠ hb → k ≠ ib → w3.heap[k]? = (w.alloc (.cells #[.int .i64 c, .int .i64 r] 54)).heap[k]?)) := Lib.hid (fun w3 k1 k2 => by
    obtain ⟨hz, hB⟩ := HB2.out
    have k2' : ∀ k, k ≤ w.heap.size → k ≠ ib → w3.heap[k]? = w2.heap[k]? := fun k hk hn => turned_at (w := w2.drew) k2 (k := k) (by show k < w2.heap.size; omega) hn
    have e0 := k2' w.heap.size (by omega) (by omega)
    have e1 := k2' xb (by omega) (Ne.symm ine)
    refine ⟨(World.cell?_of_block (w := w2) e1).trans y0, (World.cell?_of_block (w := w2) e0).trans y1, (World.cell?_of_block (w := w2) e0).trans y2, Lib.hid (own_keep HC2.out (k2' cb (by omega) (Ne.symm hnc))), Lib.hid k1, Lib.hid (own_keep HHm2.out (k2' hb (by omega) (Ne.symm hnh))), Lib.hid ((HO2.out.drew).same (off_turned k2 hsi)), Lib.hid ⟨?_, fun k hk hn hni => (k2' k hk hni).trans (hB k hk hn)⟩⟩
    rw [turned_size k2]; exact hz)
  have hown2 : w2.drew.ownsMap Try.prog 3 Rt ib N D := HI2.out
  go_wp2_with (at_delete; refine wpList_delete_own _ rfl _ _ 55 3 rfl 32 kInt Try.underlying55 Rt ib N D rfl hown2 _ (key id) rfl (key_of hf) ?_; intro w3 hown3 hturn3; obtain ⟨z0, z1, z2, HC3, HI3, HHm3, HO3, HB3⟩ := HK3.out w3 hown3 hturn3; clear hown3 hturn3 hown2 hck y0 y1 y2 HK2 HK3)
  have hck := clook_some (w := w3.drew) (show w3.drew.ownsMap Try.prog 54 Rm cb N Dc from HC3.out) hx hy hl
  have hown3 : w3.drew.ownsMap Try.prog 3 Rt ib N (D.del (key id)) := HI3.out
  go_still_tail 6, (by kernel_rfl)
  change wpList _ _ _ _ _ w3.drew
  have y0 : w3.drew.cell? ⟨xb, 1, none⟩ = some (.map (some cb)) := z0
  have y1 : w3.drew.cell? ⟨w.heap.size, 0, none⟩ = some (.int .i64 c) := z1
  have y2 : w3.drew.cell? ⟨w.heap.size, 1, none⟩ = some (.int .i64 r) := z2
  have HC4 : Hid (w3.drew.ownsMap Try.prog 54 Rm cb N Dc) := HC3
  have HI4 : Hid (w3.drew.ownsMap Try.prog 3 Rt ib N (D.del (key id))) := HI3
  have HHm4 : Hid (w3.drew.ownsMap Try.prog 3 Rt hb N (Dh.del (key id))) := HHm3
  have HO4 : Hid (OffP w w3.drew S) := Lib.hid HO3.out.drew
  have HB4 : Hid (w3.drew.heap.size = w.heap.size + 1 ∧ ∀ k, k ≤ w.heap.size → k ≠ hb → k ≠ ib → w3.drew.heap[k]? = (w.alloc (.cells #[.int .i64 c, .int .i64 r] 54)).heap[k]?) := HB3
  clear z0 z1 z2 HC3 HI3 HHm3 HO3 HB3 hck
  generalize w3.drew = w4 at *
  have HFin : Hid (∀ w5 Dc', OffP w w5 S → w5.heap.size = w.heap.size + 1 → (∀ k, k ≤ w.heap.size → k ≠ hb → k ≠ ib → k ≠ cb → w5.heap[k]? = (w.alloc (.cells #[.int .i64 c, .int .i64 r] 54)).heap[k]?) → w5.ownsMap Try.prog 3 Rt hb N (Dh.del (key id)) → w5.ownsMap Try.prog 54 Rm cb N Dc' → w5.ownsMap Try.prog 3 Rt ib N (D.del (key id)) → (Dc' = Dc ∨ Maps.size (D.del (key id)) = 0 ∧ Dc' = Dc.del (ck c r)) → Left w S N xb hb cb (del L id) w5) := Lib.hid (fun w5 Dc' k1 k2 k3 k4 k5 k6 k7 => by
    have hold : ∀ k, k < w.heap.size → k ≠ hb → k ≠ ib → k ≠ cb → w5.heap[k]? = w.heap[k]? := fun k hk a b d => (k3 k (by omega) a b d).trans (Below.heap_alloc w _ k hk)
    exact ⟨_, _, Lib.hid (HDr.out w5 Dc' (by omega) (hold xb hlt xne.1 (Ne.symm ine) xne.2) k4 k5 k6 (fun b hb' h1 h2 h3 => hold b (HLow.out b hb') h1 h3 h2) k7), Lib.hid k1⟩)
  by_cases hz : Maps.size (D.del (key id)) = 0
  · have hzz : ((Maps.size (D.del (key id)) : Int) == 0) = true := by rw [hz]; rfl
    have hown4 : w4.drew.ownsMap Try.prog 54 Rm cb N Dc := HC4.out
    have HK5 : Hid (∀ w5 : World, w5.ownsMap Try.prog 54 Rm cb N (Dc.del (ck c r)) → w4.drew.mapTurned w5 cb → Left w S N xb hb cb (del L id) w5) := Lib.hid (fun w5 k1 k2 => by
      obtain ⟨hq, hB⟩ := HB4.out
      have k2' : ∀ k, k ≤ w.heap.size → k ≠ cb → w5.heap[k]? = w4.heap[k]? := fun k hk hn => turned_at (w := w4.drew) k2 (k := k) (by show k < w4.heap.size; omega) hn
      refine HFin.out w5 _ (HO4.out.drew.same (off_turned k2 hsc)) (by rw [turned_size k2]; exact hq) (fun k hk a b d => (k2' k hk d).trans (hB k hk a b)) (own_keep HHm4.out (k2' hb (by omega) hne)) k1 (own_keep HI4.out (k2' ib (by omega) hnc)) (.inr ⟨hz, rfl⟩))
    go_wp2_with (at_len; refine wpList_len_own _ rfl _ 55 rfl 3 32 Try.underlying55 Rt ib N _ rfl hown3 ?_)
    go_still_tail 5, (by kernel_rfl)
    change wpList _ _ _ _ _ w4.drew
    go_wp2_with (at_delete; refine wpList_delete_own _ rfl _ _ 50 54 rfl 55 kCell Try.underlying50 Rm cb N Dc rfl hown4 _ (ck c r) rfl (ck_of hx.fits hy.fits) ?_; intro w5 hown5 hturn5; have HL := Lib.hid (HK5.out w5 hown5 hturn5); clear hown5 hturn5 hown4)
    go_ret
    exact ⟨rfl, HL.out⟩
  · have hzz : ((Maps.size (D.del (key id)) : Int) == 0) = false := by simp; omega
    go_wp2_with (at_len; refine wpList_len_own _ rfl _ 55 rfl 3 32 Try.underlying55 Rt ib N _ rfl hown3 ?_)
    go_ret
    exact ⟨rfl, HFin.out w4 Dc HO4.out HB4.out.1 (fun k hk a b _ => HB4.out.2 k hk a b) HHm4.out HC4.out HI4.out (.inl rfl)⟩
end
end Go.Proofs.Ytehllnbpianpfaa.Con
