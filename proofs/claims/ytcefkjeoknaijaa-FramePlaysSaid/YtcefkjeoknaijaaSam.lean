/-
  The contract of the document's Same on rows of loads that read alike.
-/
import Derived.Test.YtcefkjeoknaijaaUse
namespace Go.Proofs.Ytcefkjeoknaijaa.Con
open Go.RowKit Mth Mem

theorem Parts.drewN {w : World} {B : Nat} {A : Option Addr} {P : List (List Int)} (h : Parts w B A P) (n : Nat) : Parts (w.drewN n) B A P := h
theorem Rows.parts {w : World} {lo : Nat} {f : Option Nat} {A : Option Addr} {c : Nat} {L : List (List Int)} (h : Rows w lo f A c L) (hb : ∀ x ∈ L, Byt x) : Parts w w.heap.size A L := by
  obtain ⟨xs, h1, h2, _⟩ := h
  rcases h1.2 with ⟨_, h0⟩ | ⟨g, cap, cur, hv, hb', hg, hn, _⟩
  · exact .inl (List.eq_nil_of_length_eq_zero h0)
  · injection hv with hA _ hc
    subst hA
    refine .inr ⟨g, 0, rfl, (Array.getElem?_eq_some_iff.1 hg).1, fun k x hx => ?_⟩
    obtain ⟨A1, c1, k1, k2, k3⟩ := h2.2 k x hx
    have f0 := h1.cells (g := g) rfl k _ k1
    rw [add_none] at f0
    exact ⟨A1, c1, f0, Rd.of_own k2, hb x (List.mem_of_getElem? hx)⟩

set_option maxHeartbeats 1000000 in
theorem same_yes (w : World) (A A' : Option Addr) (c c' : Nat) (L : List (List Int)) (n n' : Nat) (hn : L.length = n) (hn' : L.length = n') (B B' : Nat) (h : Parts w B A L) (h' : Parts w B' A' L) (hl : (L.length : Int) ≤ 1000000) :
    Calls Try.prog 12 #[.slice A n c, .slice A' n' c'] w fun e w' => e = .returned (.bool true) ∧ ∃ q, w' = w.drewN q := by
  subst hn; subst hn'
  have H := Lib.hid h; have H' := Lib.hid h'; clear h h'
  go_enter Try.func12, Try.ntmps12
  go_wp2
  go_loopg [5] L.length (fun m s5 wr => ∃ (k q : Nat), k ≤ L.length ∧ m = L.length - k ∧ s5 = .int .i64 (k : Int) ∧ Hid (wr = w.drewN q))
  case atStart => exact ⟨0, 0, by omega, rfl, rfl, Lib.hid rfl⟩
  case round =>
    obtain ⟨k, q, hk, rfl, rfl, HW⟩ := hrel
    have HP : Hid (Parts wr B A L) := Lib.hid (by rw [HW.out]; exact H.out.drewN q)
    have HP' : Hid (Parts wr B' A' L) := Lib.hid (by rw [HW.out]; exact H'.out.drewN q)
    by_cases hlt : k < L.length
    · have hlt' : (k : Int) < L.length := by omega
      obtain ⟨b, off, x, a, c1, rfl, _, hx, hc, hr, _⟩ := HP.out.at' hlt
      obtain ⟨b2, off2, x2, a2, c2, rfl, _, hx2, hc2, hr2, _⟩ := HP'.out.at' hlt
      obtain rfl : x = x2 := by rw [hx] at hx2; injection hx2
      have hv1 : ∀ n, (convert 23 9 (.slice a x.length c1)).run Try.prog (wr.drewN n) = .ok (.string (strOfNums x)) (wr.drewN n) := fun n => conv c1 (hr.drewN n)
      have hv2 : ∀ n, (convert 23 9 (.slice a2 x.length c2)).run Try.prog (wr.drewN n) = .ok (.string (strOfNums x)) (wr.drewN n) := fun n => conv c2 (hr2.drewN n)
      have e0 : (0 : Int) ≤ k := by omega
      clear hx hx2 hr hr2
      go_wp2
      go_quiet (fail)
      go_wp2
      go_roundg (L.length - (k + 1))
      case measure => omega
      case rel => exact ⟨k + 1, q + nq, by omega, rfl, by go_num, Lib.hid (by rw [HW.out, World.drewN_drewN])⟩
    · have hlt' : decide ((k : Int) < L.length) = false := by simp; omega
      go_wp2
      go_ret
      exact ⟨rfl, q, HW.out⟩

/-- Push, the length under a name of its own. -/
theorem x_push' {w0 w : World} {base g : Nat} {r : Option Nat} {l b : List Int} {B : Nat} {A : Option Addr} {n c : Nat} (hn : b.length = n) (h : Feed w base g r l false) (hw : Below base w0 w) (hr : Rd .u8 w B A b) (hl : (l.length : Int) ≤ 4104) (hm : (b.length : Int) ≤ 20000) (hby : Byt l) (hbb : Byt b) {L : List (List Int)} {z : List Int} {x : Int} (hp : parse (l ++ b) = (L, z, x)) (d : Bool) (hd : (x != 0) = d) :
    Calls Try.prog 10 #[.pointer (some ⟨g, 0, none⟩), .slice A n c] w fun e w' => ∃ A' c' r', e = .returned (.tuple #[.slice A' L.length c', .int .i64 x]) ∧ Hid (Feed w' base g r' z d) ∧ Hid (Rows w' w.heap.size r' A' c' L) ∧ Hid (Below base w0 w') ∧ Hid (Turn w w' g r) ∧ Hid (r' = r ∨ ∀ k, r' = some k → w.heap.size ≤ k) := by
  subst hn
  exact x_push h hw hr hl hm hby hbb hp d hd

/-- Loads that were answered stay, whatever is pushed after. -/
theorem rows_kept {w w' : World} {lo g : Nat} {r r' : Option Nat} {A : Option Addr} {c : Nat} {L : List (List Int)} (h : Rows w lo r A c L) (hg : g < lo) (ht : Turn w w' g r) (hr : r' = r ∨ ∀ k, r' = some k → w.heap.size ≤ k) : Rows w' lo r' A c L := by
  have h1 := h.other (f' := r') (fun k _ hk hne e => by
    rcases hr with rfl | hr
    · exact hne e
    · have := hr k e.symm; omega)
  obtain ⟨xs, k1, k2, k3⟩ := h
  obtain ⟨xs', m1, m2, m3⟩ := h1
  refine ⟨xs', own_far m1 (fun j hj => ?_), ?_, m3⟩
  · have hj' := (blk_own A L.length c).symm.trans hj
    have := m1.lt j hj
    exact ht.block j this.2 (by omega) (k3 j hj')
  · have e : xs' = xs := by
      rcases k1.2 with ⟨hv, h0⟩ | ⟨g1, cap, cur, hv, _, hg1, _, _, _, ht1⟩
      · have a1 := k1.1
        have a2 := m1.1
        rw [h0] at a1 a2
        simp at a1 a2
        rw [a1, a2]
      · rcases m1.2 with ⟨hv', h0⟩ | ⟨g2, cap2, cur2, hv2, _, hg2, _, _, _, ht2⟩
        · have a1 := k1.1
          have a2 := m1.1
          rw [h0] at a1 a2
          simp at a1 a2
          rw [a1, a2]
        · rw [hv] at hv2
          injection hv2 with hv2
          injection hv2 with hv2
          injection hv2 with hv2
          subst hv2
          rw [hg1] at hg2
          injection hg2 with hg2
          injection hg2 with hg2
          subst hg2
          rw [← ht1, ← ht2]
    subst e
    refine ⟨k2.1, fun k x hx => ?_⟩
    obtain ⟨A1, c1, a1, a2, a3⟩ := k2.2 k x hx
    refine ⟨A1, c1, a1, own_far a2 (fun j hj => ?_), fun j hj e => ?_⟩
    · have hj' := (blk_own A1 x.length c1).symm.trans hj
      have := a2.lt j hj'
      exact ht.block j this.2 (by omega) (a3 j hj')
    · rcases hr with rfl | hr
      · exact a3 j hj e
      · have := hr j e.symm
        have := a2.lt j hj
        omega
/-- A row of the call's own stays that is none of the feed's. -/
theorem own_kept {w w' : World} {base g : Nat} {r : Option Nat} {K : IntKind} {A : Option Addr} {c : Nat} {l : List Int} (h : Own w base K 5 A c l) (hg : blk A ≠ some g) (hr : ∀ k, blk A = some k → some k ≠ r) (ht : Turn w w' g r) : Own w' base K 5 A c l :=
  own_far h fun k hk => by
    have hk' := (blk_own A l.length c).symm.trans hk
    exact ht.block k (h.lt k hk').2 (fun e => hg (by rw [hk', e])) (hr k hk')
theorem Feed.ne_own {w : World} {base base' g : Nat} {r : Option Nat} {l : List Int} {d : Bool} (h : Feed w base g r l d) {K : IntKind} {A : Option Addr} {c : Nat} {m : List Int} (ho : Own w base' K 5 A c m) : blk A ≠ some g := by
  obtain ⟨A0, c0, hd, _⟩ := h
  exact hd.ne ho (by decide)
/-- A feed stays, where only a row of loads that is not its own has turned. -/
theorem feed_app {w w' : World} {base lo g : Nat} {r : Option Nat} {l : List Int} {d : Bool} {A A' : Option Addr} {c : Nat} {L : List (List Int)} (h : Feed w base g r l d) (hR : Rows w lo r A c L) (hg : g < lo) (hs : Step w w' (blk A) A') : Feed w' base g r l d := by
  have hlt := h.lt
  obtain ⟨xs, h1, _, h3⟩ := hR
  refine h.keep (hs.grown.block g hlt.2.1 (fun e => ?_)) (fun k hk => hs.grown.block k (hlt.2.2 k hk).2 (fun e => h3 k e.symm hk.symm))
  have := (h1.lt g ((blk_own A L.length c).trans e.symm)).1
  omega
theorem below_app {w0 w w' : World} {B lo : Nat} {f : Option Nat} {A A' : Option Addr} {c : Nat} {L : List (List Int)} (hb : Below B w0 w) (hR : Rows w lo f A c L) (hB : B ≤ lo) (hs : Step w w' (blk A) A') (hw : B ≤ w.heap.size) : Below B w0 w' := by
  obtain ⟨xs, h1, _, h3⟩ := hR
  refine below_step hb hs (fun k hk => ?_) hw
  have := (h1.lt k ((blk_own A L.length c).trans hk)).1
  omega
theorem RdV.of_rows {w : World} {lo : Nat} {f : Option Nat} {A : Option Addr} {c : Nat} {L : List (List Int)} (h : Rows w lo f A c L) : ∃ ys, RdV w A ys ∧ LoadsAt w lo f ys L := by
  obtain ⟨xs, h1, h2, _⟩ := h
  exact ⟨xs, RdV.of_own h1, h2⟩
end Go.Proofs.Ytcefkjeoknaijaa.Con
