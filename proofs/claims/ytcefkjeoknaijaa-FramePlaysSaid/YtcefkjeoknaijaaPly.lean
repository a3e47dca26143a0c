/-
  The program's feed and the document's own, side by side; what is pushed, and what is answered, written over.
-/
import Derived.Test.YtcefkjeoknaijaaMid
import Derived.Test.YtcefkjeoknaijaaRpu
namespace Go.Proofs.Ytcefkjeoknaijaa.Con
open Go.RowKit Mth Mem

/-- Both feeds hold the same, and share no memory. -/
structure PP (w0 w : World) (base gx : Nat) (rx : Option Nat) (gy : Nat) (ry : Option Nat) (l : List Int) (d : Bool) : Prop where
  fx : Feed w base gx rx l d
  fy : RFeed w base gy ry l d
  rr : ∀ k, rx = some k → ry ≠ some k
  below : Below base w0 w
/-- A block that is none of theirs. -/
structure Fr (base gx : Nat) (rx : Option Nat) (gy : Nat) (ry : Option Nat) (b : Nat) : Prop where
  lo : base ≤ b
  x : b ≠ gx
  y : b ≠ gy
  rx : some b ≠ rx
  ry : some b ≠ ry

theorem duo_apart {w : World} {g g' : Nat} {t t' : TypeId} {u v u' v' : Value} (h : Duo w g t u v) (h' : Duo w g' t' u' v') (ht : t ≠ t') : g ≠ g' := by
  rintro rfl
  unfold Duo at h h'
  rw [h] at h'
  injection h' with h'
  injection h' with _ h'
  exact ht h'
section
variable {w0 w w' : World} {base gx : Nat} {rx : Option Nat} {gy : Nat} {ry : Option Nat} {l : List Int} {d : Bool}
theorem PP.xy (h : PP w0 w base gx rx gy ry l d) : gx ≠ gy := by
  obtain ⟨A, c, h1, _⟩ := h.fx
  obtain ⟨A', c', h2, _⟩ := h.fy
  exact duo_apart h1 h2 (by decide)
theorem PP.rxy (h : PP w0 w base gx rx gy ry l d) : rx ≠ some gy := by
  obtain ⟨A, c, _, _, ho, hr⟩ := h.fx
  obtain ⟨A', c', h2, _⟩ := h.fy
  rw [← hr]
  exact h2.ne ho (by decide)
theorem PP.ryx (h : PP w0 w base gx rx gy ry l d) : ry ≠ some gx := by
  intro e
  obtain ⟨A, c, h1, _⟩ := h.fx
  obtain ⟨A', c', _, _, _, _, h5⟩ := h.fy
  obtain ⟨_, cur, hc⟩ := h5 gx e
  unfold Duo at h1
  rw [hc] at h1
  injection h1 with h1
  injection h1 with _ h1
  cases h1
theorem PP.size (h : PP w0 w base gx rx gy ry l d) : base ≤ w.heap.size := by
  have := h.fx.lt
  omega
theorem PP.step (h : PP w0 w base gx rx gy ry l d) (hb : Below w.heap.size w w') : PP w0 w' base gx rx gy ry l d :=
  ⟨h.fx.below hb (Nat.le_refl _), h.fy.below hb (Nat.le_refl _), h.rr, h.below.trans (hb.mono h.size)⟩
theorem PP.drewN (h : PP w0 w base gx rx gy ry l d) (n : Nat) : PP w0 (w.drewN n) base gx rx gy ry l d :=
  ⟨h.fx.drewN n, h.fy.drewN n, h.rr, ⟨h.below.os, h.below.tape, h.below.output, h.below.size, h.below.block⟩⟩
theorem PP.set (h : PP w0 w base gx rx gy ry l d) {b : Nat} (hf : Fr base gx rx gy ry b) (j : Nat) (v : Value) : PP w0 (w.setCell ⟨b, j, none⟩ v) base gx rx gy ry l d := by
  have keep : ∀ k, k ≠ b → (w.setCell ⟨b, j, none⟩ v).heap[k]? = w.heap[k]? := fun k hk => Below.heap_setCell _ _ _ _ hk
  exact ⟨h.fx.keep (keep _ (fun e => hf.x e.symm)) (fun k hk => keep k (fun e => hf.rx (by rw [hk, e]))), h.fy.keep (by simp [World.setCell]) (keep _ (fun e => hf.y e.symm)) (fun k hk => keep k (fun e => hf.ry (by rw [hk, e]))), h.rr, h.below.setCell hf.lo _⟩
theorem PP.ycell (h : PP w0 w base gx rx gy ry l d) : ∃ A c, w.cell? ⟨gy, 0, none⟩ = some (.slice A l.length c) ∧ w.cell? ⟨gy, 1, none⟩ = some (.bool d) := by
  obtain ⟨A, c, h1, _⟩ := h.fy
  exact ⟨A, c, h1.cell0, h1.cell1⟩
end

/-- Both feeds; what was pushed (n bytes at Ai) and what came out (the loads at La) may be written over. -/
structure Wr (w0 w : World) (base gx : Nat) (rx : Option Nat) (gy : Nat) (ry : Option Nat) (l : List Int) (d : Bool) (Ai : Option Addr) (n : Nat) (La : Option Addr) (L : List (List Int)) : Prop where
  pp : PP w0 w base gx rx gy ry l d
  inw : 0 < n → ∃ gi, Ai = some ⟨gi, 0, none⟩ ∧ Fr base gx rx gy ry gi ∧ ∃ cur, w.heap[gi]? = some (.cells cur 5 (0, 0)) ∧ n ≤ cur.size
  low : ∀ (k : Nat) (x : List Int), L[k]? = some x → ∃ gr A1 c1, La = some ⟨gr, 0, none⟩ ∧ w.cell? ⟨gr, k, none⟩ = some (.slice A1 x.length c1) ∧ (∃ cr, w.heap[gr]? = some (.cells cr 23 (0, 0))) ∧ (0 < x.length → ∃ gl, A1 = some ⟨gl, 0, none⟩ ∧ Fr base gx rx gy ry gl ∧ ∃ cur, w.heap[gl]? = some (.cells cur 5 (0, 0)) ∧ x.length ≤ cur.size)

theorem cur_set {w : World} {b j : Nat} {v : Value} {gi n : Nat} {t : TypeId} (h : ∃ cur, w.heap[gi]? = some (.cells cur t (0, 0)) ∧ n ≤ cur.size) : ∃ cur, (w.setCell ⟨b, j, none⟩ v).heap[gi]? = some (.cells cur t (0, 0)) ∧ n ≤ cur.size := by
  obtain ⟨cur, h1, h2⟩ := h
  by_cases e : gi = b
  · subst e
    exact ⟨cur.setIfInBounds j v, by simp [World.setCell, Array.getElem?_modify, h1], by simpa using h2⟩
  · exact ⟨cur, (Below.heap_setCell _ _ _ _ e).trans h1, h2⟩

section
variable {w0 w w' : World} {base gx : Nat} {rx : Option Nat} {gy : Nat} {ry : Option Nat} {l : List Int} {d : Bool} {Ai : Option Addr} {n : Nat} {La : Option Addr} {L : List (List Int)}
theorem Wr.set (h : Wr w0 w base gx rx gy ry l d Ai n La L) {b : Nat} (hf : Fr base gx rx gy ry b) (hb : ∃ cur, w.heap[b]? = some (.cells cur 5 (0, 0))) (j : Nat) (v : Value) : Wr w0 (w.setCell ⟨b, j, none⟩ v) base gx rx gy ry l d Ai n La L := by
  refine ⟨h.pp.set hf j v, fun hn => ?_, fun k x hx => ?_⟩
  · obtain ⟨gi, h1, h2, h3⟩ := h.inw hn
    exact ⟨gi, h1, h2, cur_set h3⟩
  · obtain ⟨gr, A1, c1, h1, h2, ⟨cr, h3⟩, h4⟩ := h.low k x hx
    have hne : gr ≠ b := by
      rintro rfl
      obtain ⟨cur, hb⟩ := hb
      rw [hb] at h3
      injection h3 with h3
      injection h3 with _ h3
      cases h3
    have hk := Below.heap_setCell w ⟨b, j, none⟩ v gr hne
    refine ⟨gr, A1, c1, h1, (World.cell?_of_block (w := w) hk).trans h2, ⟨cr, hk.trans h3⟩, fun hx0 => ?_⟩
    obtain ⟨gl, k1, k2, k3⟩ := h4 hx0
    exact ⟨gl, k1, k2, cur_set k3⟩
theorem Wr.drewN (h : Wr w0 w base gx rx gy ry l d Ai n La L) (q : Nat) : Wr w0 (w.drewN q) base gx rx gy ry l d Ai n La L := ⟨h.pp.drewN q, h.inw, h.low⟩
theorem Wr.of {lo lo2 ci ca : Nat} {x : List Int} (pp : PP w0 w base gx rx gy ry l d) (hin : Own w lo .u8 5 Ai ci x) (hfi : ∀ k, blk Ai = some k → Fr base gx rx gy ry k) (r1 : Rows w lo2 rx La ca L) (r2 : Rows w lo2 ry La ca L) (hx : gx < lo2) (hy : gy < lo2) (hb : base ≤ lo2) : Wr w0 w base gx rx gy ry l d Ai x.length La L := by
  refine ⟨pp, fun hn => ?_, fun k y hy' => ?_⟩
  · rcases hin.2 with ⟨_, h0⟩ | ⟨g, cap, cur, hv, _, hg, hnc, _, hs, _⟩
    · omega
    · injection hv with hA _ hc
      subst hA
      exact ⟨g, rfl, hfi g rfl, cur, hg, by omega⟩
  · have hk := (List.getElem?_eq_some_iff.1 hy').1
    obtain ⟨gr, y1, A1, c1, hA, k1, k2, k3, k4⟩ := r1.at' hk
    obtain ⟨gr2, y2, A2, c2, hA2, m1, m2, m3, m4⟩ := r2.at' hk
    rw [hy'] at k1 m1
    injection k1 with k1
    injection m1 with m1
    subst k1; subst m1
    rw [hA] at hA2
    injection hA2 with hA2
    injection hA2 with hA2
    subst hA2
    rw [k2] at m2
    injection m2 with m2
    injection m2 with m2 _ m2'
    subst m2; subst m2'
    refine ⟨gr, A1, c1, hA, k2, ?_, fun h0 => ?_⟩
    · obtain ⟨xs, h1, _, _⟩ := r1
      rcases h1.2 with ⟨_, h0⟩ | ⟨g, cap, cur, hv, _, hg, _⟩
      · omega
      · injection hv with hv
        rw [hA] at hv
        injection hv with hv
        injection hv with hv
        subst hv
        exact ⟨cur, hg⟩
    · rcases k3.2 with ⟨_, h0'⟩ | ⟨g, cap, cur, hv, hbg, hg, hnc, _, hs, _⟩
      · omega
      · injection hv with hA1 _ hc
        subst hA1
        exact ⟨g, rfl, ⟨by omega, by omega, by omega, k4 g rfl, m4 g rfl⟩, cur, hg, by omega⟩
theorem Wr.icell (h : Wr w0 w base gx rx gy ry l d Ai n La L) {j : Nat} (hj : j < n) : ∃ gi v, Ai = some ⟨gi, 0, none⟩ ∧ w.cell? ⟨gi, j, none⟩ = some v ∧ w.frozen? ⟨gi, j, none⟩ = false ∧ ∀ u, Wr w0 (w.setCell ⟨gi, j, none⟩ u) base gx rx gy ry l d Ai n La L := by
  obtain ⟨gi, h1, h2, cur, h3, h4⟩ := h.inw (by omega)
  refine ⟨gi, cur[j]'(by omega), h1, ?_, by simp [World.frozen?, h3], fun u => h.set h2 ⟨cur, h3⟩ j u⟩
  rw [cell_of_row w gi j cur 5 (0, 0) h3]
  exact Array.getElem?_eq_getElem (by omega)
theorem Wr.row (h : Wr w0 w base gx rx gy ry l d Ai n La L) {k : Nat} {x : List Int} (hx : L[k]? = some x) : ∃ gr A1 c1, La = some ⟨gr, 0, none⟩ ∧ w.cell? ⟨gr, k, none⟩ = some (.slice A1 x.length c1) ∧ ∀ j, j < x.length → ∃ gl v, A1 = some ⟨gl, 0, none⟩ ∧ w.cell? ⟨gl, j, none⟩ = some v ∧ w.frozen? ⟨gl, j, none⟩ = false ∧ ∀ u, Wr w0 (w.setCell ⟨gl, j, none⟩ u) base gx rx gy ry l d Ai n La L := by
  obtain ⟨gr, A1, c1, h1, h2, _, h4⟩ := h.low k x hx
  refine ⟨gr, A1, c1, h1, h2, fun j hj => ?_⟩
  obtain ⟨gl, k1, k2, cur, k3, k4⟩ := h4 (by omega)
  refine ⟨gl, cur[j]'(by omega), k1, ?_, by simp [World.frozen?, k3], fun u => h.set k2 ⟨cur, k3⟩ j u⟩
  rw [cell_of_row w gl j cur 5 (0, 0) k3]
  exact Array.getElem?_eq_getElem (by omega)
end

/-- Behind both pushes. -/
theorem ply_alive {w0 wr w2 w3 w4 : World} {base gx : Nat} {rx rx' : Option Nat} {gy : Nat} {ry ry' : Option Nat} {l z : List Int} {d d' : Bool} {Ai : Option Addr} {ci : Nat} {x : List Int} {La : Option Addr} {ca : Nat} {L : List (List Int)}
    (h : PP w0 wr base gx rx gy ry l d) (hb2 : Below wr.heap.size wr w2) (hin : Own w2 wr.heap.size .u8 5 Ai ci x)
    (fx : Feed w3 base gx rx' z d') (hra : Rows w3 w2.heap.size rx' La ca L) (ht3 : Turn w2 w3 gx rx) (hr' : rx' = rx ∨ ∀ k, rx' = some k → w2.heap.size ≤ k)
    (fy : RFeed w4 base gy ry' z d') (ht4 : Turn w3 w4 gy none) (hry : ∀ k, ry' = some k → w3.heap.size ≤ k) : Wr w0 w4 base gx rx' gy ry' z d' Ai x.length La L := by
  have p2 := h.step hb2
  have lx := h.fx.lt
  have ly := h.fy.lt
  have s2 := hb2.size
  have s3 := ht3.size
  have s4 := ht4.size
  have l3 := fx.lt
  have hrxy : rx' ≠ some gy := by
    rintro rfl
    rcases hr' with e | e
    · exact h.rxy e.symm
    · have := e gy rfl; omega
  have fx4 : Feed w4 base gx rx' z d' := fx.keep (ht4.block gx l3.2.1 h.xy (by simp)) (fun k hk => ht4.block k (l3.2.2 k hk).2 (fun e => hrxy (by rw [hk, e])) (by simp))
  have pp : PP w0 w4 base gx rx' gy ry' z d' := by
    refine ⟨fx4, fy, fun k hk e => ?_, ?_⟩
    · have := hry k e
      have := (l3.2.2 k hk).2
      omega
    · have b3 := p2.below.trans (ht3.below_feed p2.fx)
      exact b3.trans (ht4.below (by omega) (by omega) (fun k hk => by cases hk))
  have o3 : Own w3 wr.heap.size .u8 5 Ai ci x := own_kept hin (p2.fx.ne_own hin) (fun k hk e => by
    have := (Own.lt hin k hk).1
    have := (lx.2.2 k e.symm).2
    omega) ht3
  have o4 : Own w4 wr.heap.size .u8 5 Ai ci x := own_far o3 (fun k hk => by
    have hk' := (blk_own Ai x.length ci).symm.trans hk
    have := o3.lt k hk'
    exact ht4.block k this.2 (by omega) (by simp))
  have keep4 : ∀ k, w2.heap.size ≤ k → k < w3.heap.size → w4.heap[k]? = w3.heap[k]? := fun k h1 h2 => ht4.block k h2 (by omega) (by simp)
  refine Wr.of (lo2 := w2.heap.size) pp o4 (fun k hk => ?_) (hra.keep (fun k h1 h2 _ => keep4 k h1 h2)) ((hra.other (f' := ry') (fun k _ h2 _ e => by have := hry k e.symm; omega)).keep (fun k h1 h2 _ => keep4 k h1 h2)) (by omega) (by omega) (by omega)
  have hk2 := Own.lt hin k hk
  refine ⟨by omega, by omega, by omega, fun e => ?_, fun e => ?_⟩
  · rcases hr' with rfl | hr'
    · have := (lx.2.2 k e.symm).2
      omega
    · have := hr' k e.symm
      omega
  · have := hry k e.symm
    omega
/-- Where both are dead. -/
theorem ply_dead {w0 wr w2 : World} {base gx : Nat} {rx : Option Nat} {gy : Nat} {ry : Option Nat} {l : List Int} {d : Bool} {Ai : Option Addr} {ci : Nat} {x : List Int}
    (h : PP w0 wr base gx rx gy ry l d) (hb2 : Below wr.heap.size wr w2) (hin : Own w2 wr.heap.size .u8 5 Ai ci x) : Wr w0 w2 base gx rx gy ry l d Ai x.length none [] := by
  have lx := h.fx.lt
  have ly := h.fy.lt
  have s2 := hb2.size
  refine Wr.of (lo2 := w2.heap.size) (h.step hb2) hin (fun k hk => ?_) (Rows.nil _ _ _) (Rows.nil _ _ _) (by omega) (by omega) (by omega)
  have hk2 := Own.lt hin k hk
  exact ⟨by omega, by omega, by omega, fun e => by have := (lx.2.2 k e.symm).2; omega, fun e => by have := (ly.2.2 k e.symm).2; omega⟩
end Go.Proofs.Ytcefkjeoknaijaa.Con
