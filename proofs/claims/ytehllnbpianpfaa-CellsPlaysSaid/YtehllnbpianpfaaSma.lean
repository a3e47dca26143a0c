/-
  The program's index by its contracts over one predicate, and the laws' small case.
-/
import Derived.Test.YtehllnbpianpfaaPut
import Derived.Test.YtehllnbpianpfaaAtt
import Derived.Test.YtehllnbpianpfaaIds
import Derived.Test.YtehllnbpianpfaaClo
namespace Go.Proofs.Ytehllnbpianpfaa.Con
open Go.RowKit Cll Go.Maps

/-- An index in what was made since W. -/
def XO (W w : World) (N xb : Nat) (L : List Un) : Prop := ∃ S, IXe w S N xb L ∧ (∀ b, S b → W.heap.size ≤ b) ∧ Below W.heap.size W w
section
variable {W w w' : World} {N xb : Nat} {L : List Un}
theorem XO.step (h : XO W w N xb L) (hb : Below w.heap.size w w') : XO W w' N xb L := by
  obtain ⟨S, h1, h2, h3⟩ := h
  exact ⟨S, h1.step hb, h2, h3.trans (hb.mono h3.size)⟩
theorem XO.bel (h : XO W w N xb L) : Below W.heap.size W w := h.choose_spec.2.2
theorem XO.drewN (h : XO W w N xb L) (n : Nat) : XO W (w.drewN n) N xb L := h.step (below_drewN (Below.refl _ _) n)
theorem XO.alloc (h : XO W w N xb L) (o : Obj) : XO W (w.alloc o) N xb L := h.step ((Below.refl _ _).alloc (Nat.le_refl _) o)
theorem XO.good (h : XO W w N xb L) : Cll.Good L := by
  obtain ⟨S, ⟨_, _, _, _, h1⟩, _⟩ := h
  exact h1.good
theorem XO.len (h : XO W w N xb L) : L.length ≤ N ∧ (N : Int) ≤ 100000 := by
  obtain ⟨S, ⟨_, _, _, _, h1⟩, _⟩ := h
  exact ⟨h1.len, h1.cap⟩
theorem xo_new (W w : World) (h : Below W.heap.size W w) : Calls Try.prog 7 #[] w fun e w' => ∃ xb, e = .returned (.pointer (some ⟨xb, 0, none⟩)) ∧ Hid (XO W w' 0 xb []) ∧ Hid (Below w.heap.size w w') := by
  refine (new_any w).mono ?_
  rintro e w' ⟨xb, rfl, h1, h2, h3, h4⟩
  exact ⟨xb, rfl, Lib.hid ⟨_, h1.out, fun b hb => Nat.le_trans h.size hb.1, h.trans (h2.mono h.size)⟩, Lib.hid h2⟩
theorem xo_put (h : XO W w N xb L) (id x y : Int) (hf : Fits id) (hN : (N : Int) < 90000) (b : Bool) (hb : (onB x && onB y) = b) (L' : List Un) (hL : (if b = true then ins (del L id) ⟨id, x, y⟩ else L) = L') : Calls Try.prog 8 #[.pointer (some ⟨xb, 0, none⟩), .int .i64 id, pv x y] w fun e w' => e = .returned (.bool b) ∧ Hid (XO W w' (N + 2) xb L') := by
  obtain ⟨S, ⟨hb', cb, Dh, Dc, h1⟩, h2, h3⟩ := h
  cases b with
  | false =>
    refine (put_off xb id x y w hb).mono ?_
    rintro e w' ⟨rfl, hB⟩
    simp at hL
    subst hL
    exact ⟨rfl, Lib.hid ⟨S, ⟨_, _, _, _, (h1.step hB).more (by omega) (by omega)⟩, h2, h3.trans (hB.mono h3.size)⟩⟩
  | true =>
    simp only [Bool.and_eq_true] at hb
    simp at hL
    refine (put_on h1 id x y hf hb.1 hb.2 hN).mono ?_
    rintro e w' ⟨rfl, S', k1, k2, k3⟩
    subst hL
    refine ⟨rfl, Lib.hid ⟨S', k1.out, fun b hb => ?_, h3.trans (k2.out.below h3.size h2)⟩⟩
    rcases k3.out b hb with e | e
    · exact h2 b e
    · have := h3.size; omega
theorem xo_drop (h : XO W w N xb L) (id : Int) (hf : Fits id) (b : Bool) (hb : hasId L id = b) (L' : List Un) (hL : del L id = L') : Calls Try.prog 10 #[.pointer (some ⟨xb, 0, none⟩), .int .i64 id] w fun e w' => e = .returned (.bool b) ∧ Hid (XO W w' N xb L') := by
  obtain ⟨S, ⟨hb', cb, Dh, Dc, h1⟩, h2, h3⟩ := h
  subst hL
  cases b with
  | false =>
    refine (drop_no h1 id hf (lk_no hb)).mono ?_
    rintro e w' ⟨rfl, hB⟩
    rw [del_none hb]
    exact ⟨rfl, Lib.hid ⟨S, ⟨_, _, _, _, h1.step hB⟩, h2, h3.trans (hB.mono h3.size)⟩⟩
  | true =>
    obtain ⟨t, ht⟩ := lk_yes hb
    refine (drop_yes h1 id hf t ht).mono ?_
    rintro e w' ⟨rfl, Dh', Dc', k1, k2⟩
    exact ⟨rfl, Lib.hid ⟨S, ⟨_, _, _, _, k1.out⟩, h2, h3.trans (k2.out.below h3.size h2)⟩⟩
theorem xo_at (h : XO W w N xb L) (id : Int) (hf : Fits id) (px py : Int) (f : Bool) (hv : match lk L id with | some t => px = t.x ∧ py = t.y ∧ f = true | none => px = 0 ∧ py = 0 ∧ f = false) : Calls Try.prog 12 #[.pointer (some ⟨xb, 0, none⟩), .int .i64 id] w fun e w' => e = .returned (.tuple #[pv px py, .bool f]) ∧ Hid (XO W w' N xb L) ∧ Hid (Below w.heap.size w w') := by
  have h' := h
  obtain ⟨S, ⟨hb', cb, Dh, Dc, h1⟩, h2, h3⟩ := h
  cases hl : lk L id with
  | none =>
    rw [hl] at hv
    obtain ⟨rfl, rfl, rfl⟩ := hv
    refine (at_no h1 id hf hl).mono ?_
    rintro e w' ⟨rfl, hB⟩
    exact ⟨rfl, Lib.hid (h'.step hB), Lib.hid hB⟩
  | some t =>
    rw [hl] at hv
    obtain ⟨rfl, rfl, rfl⟩ := hv
    refine (at_yes h1 id hf t hl).mono ?_
    rintro e w' ⟨rfl, hB⟩
    exact ⟨rfl, Lib.hid (h'.step hB), Lib.hid hB⟩
theorem xo_near (h : XO W w N xb L) (px py r : Int) (f1 : Fits px) (f2 : Fits py) (f3 : Fits r) (l : List Int) (hl : ids L (nr px py r) = l) (n : Nat) (hn : l.length = n) : Calls Try.prog 17 #[.pointer (some ⟨xb, 0, none⟩), pv px py, .int .i64 r] w fun e w' => ∃ A c, e = .returned (.slice A n c) ∧ Hid (Mei.Rd .i64 w' w'.heap.size A l) ∧ Hid (XO W w' N xb L) ∧ Hid (Below w.heap.size w w') := by
  have h' := h
  obtain ⟨S, ⟨hb', cb, Dh, Dc, h1⟩, h2, h3⟩ := h
  refine (near_ix h1 px py r f1 f2 f3).mono ?_
  rintro e w' ⟨A, c, l', rfl, k1, k2, k3⟩
  obtain rfl : l' = l := k1.out.trans hl
  subst hn
  exact ⟨A, c, rfl, k2, Lib.hid (h'.step k3.out), k3⟩
theorem xo_ids (h : XO W w N xb L) (l : List Int) (hl : ids L (fun _ => true) = l) (n : Nat) (hn : l.length = n) : Calls Try.prog 19 #[.pointer (some ⟨xb, 0, none⟩)] w fun e w' => ∃ A c, e = .returned (.slice A n c) ∧ Hid (Mei.Rd .i64 w' w'.heap.size A l) ∧ Hid (XO W w' N xb L) ∧ Hid (Below w.heap.size w w') := by
  have h' := h
  obtain ⟨S, ⟨hb', cb, Dh, Dc, h1⟩, h2, h3⟩ := h
  refine (ids_ix h1).mono ?_
  rintro e w' ⟨A, c, l', rfl, k1, k2, k3⟩
  obtain rfl : l' = l := k1.out.trans hl
  subst hn
  exact ⟨A, c, rfl, k2, Lib.hid (h'.step k3.out), k3⟩
theorem xo_closest (h : XO W w N xb L) (px py nt : Int) (f1 : Fits px) (f2 : Fits py) (f : Bool) (d k : Int) (hB : Best L px py nt (fun _ => true) f d k) : Calls Try.prog 14 #[.pointer (some ⟨xb, 0, none⟩), pv px py, .int .i64 nt] w fun e w' => e = .returned (.tuple #[.int .i64 k, .bool f]) ∧ Hid (XO W w' N xb L) ∧ Hid (Below w.heap.size w w') := by
  have h' := h
  obtain ⟨S, ⟨hb', cb, Dh, Dc, h1⟩, h2, h3⟩ := h
  refine (closest_ix h1 px py nt f1 f2).mono ?_
  rintro e w' ⟨f', d', k', rfl, k1, k2⟩
  obtain ⟨rfl, _, rfl⟩ := k1.out.one hB
  exact ⟨rfl, Lib.hid (h'.step k2.out), k2⟩
end
/-- There is a best one, whatever units there are. -/
theorem best_ex (L : List Un) (px py nt : Int) : ∃ f d k, Best L px py nt (fun _ => true) f d k := by
  classical
  by_cases h : ∃ t ∈ L, t.id ≠ nt
  · have : ∀ M : List Un, (∃ t ∈ M, t.id ≠ nt) → ∃ t ∈ M, t.id ≠ nt ∧ ∀ s ∈ M, s.id ≠ nt → dist px py t < dist px py s ∨ (dist px py t = dist px py s ∧ t.id ≤ s.id) := by
      intro M
      induction M with
      | nil => rintro ⟨t, ht, _⟩; cases ht
      | cons a r ih =>
        intro hM
        by_cases hr : ∃ t ∈ r, t.id ≠ nt
        · obtain ⟨t, ht, hn, hall⟩ := ih hr
          by_cases ha : a.id = nt
          · exact ⟨t, by simp [ht], hn, fun s hs hsn => by
              rcases List.mem_cons.1 hs with rfl | hs
              · exact absurd ha hsn
              · exact hall s hs hsn⟩
          · by_cases hb : dist px py a < dist px py t ∨ (dist px py a = dist px py t ∧ a.id ≤ t.id)
            · refine ⟨a, by simp, ha, fun s hs hsn => ?_⟩
              rcases List.mem_cons.1 hs with rfl | hs
              · exact .inr ⟨rfl, Int.le_refl _⟩
              · have := hall s hs hsn
                omega
            · refine ⟨t, by simp [ht], hn, fun s hs hsn => ?_⟩
              rcases List.mem_cons.1 hs with rfl | hs
              · omega
              · exact hall s hs hsn
        · obtain ⟨t, ht, hn⟩ := hM
          rcases List.mem_cons.1 ht with rfl | ht
          · refine ⟨t, by simp, hn, fun s hs hsn => ?_⟩
            rcases List.mem_cons.1 hs with rfl | hs
            · exact .inr ⟨rfl, Int.le_refl _⟩
            · exact absurd ⟨s, hs, hsn⟩ hr
          · exact absurd ⟨t, ht, hn⟩ hr
    obtain ⟨t, ht, hn, hall⟩ := this L h
    exact ⟨true, _, _, ⟨fun h => (by cases h), fun _ => ⟨⟨t, ht, rfl, hn, rfl, rfl⟩, fun s hs _ hsn => hall s hs hsn⟩⟩⟩
  · refine ⟨false, 0, 0, ⟨fun _ => ⟨fun t ht _ => ?_, rfl, rfl⟩, fun h => (by cases h)⟩⟩
    by_cases e : t.id = nt
    · exact e
    · exact absurd ⟨t, ht, e⟩ h
end Go.Proofs.Ytehllnbpianpfaa.Con
