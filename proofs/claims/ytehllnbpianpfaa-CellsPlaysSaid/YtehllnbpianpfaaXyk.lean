/-
  The program's index, beside blocks that it does not reach; and both indexes side by side.
-/
import Derived.Test.YtehllnbpianpfaaSml2
import Derived.Test.YtehllnbpianpfaaRpt
import Derived.Test.YtehllnbpianpfaaRne
namespace Go.Proofs.Ytehllnbpianpfaa.Con
open Go.RowKit Cll Go.Maps

theorem lt_of_obj {w : World} {b : Nat} {o : Obj} (h : w.heap[b]? = some o) : b < w.heap.size := (Array.getElem?_eq_some_iff.1 h).1
/-- What a call that turns an index leaves. -/
def SLeft (w w' : World) (S : Nat → Prop) (N xb : Nat) (L' : List Un) : Prop := ∃ S', IXe w' S' N xb L' ∧ OffP w w' S ∧ ∀ b, S' b → S b ∨ (w.heap.size ≤ b ∧ b < w'.heap.size)
section
variable {w w' : World} {S : Nat → Prop} {N xb : Nat} {L : List Un}
theorem IXe.low (h : IXe w S N xb L) : ∀ b, S b → b < w.heap.size := by
  obtain ⟨_, _, _, _, h⟩ := h
  exact h.low
theorem IXe.good (h : IXe w S N xb L) : Cll.Good L := by
  obtain ⟨_, _, _, _, h⟩ := h
  exact h.good
theorem IXe.len (h : IXe w S N xb L) : L.length ≤ N ∧ (N : Int) ≤ 100000 := by
  obtain ⟨_, _, _, _, h⟩ := h
  exact ⟨h.len, h.cap⟩
theorem xs_put (h : IXe w S N xb L) (id x y : Int) (hf : Fits id) (hN : (N : Int) < 90000) (b : Bool) (hb : (onB x && onB y) = b) (L' : List Un) (hL : (if b = true then ins (del L id) ⟨id, x, y⟩ else L) = L') : Calls Try.prog 8 #[.pointer (some ⟨xb, 0, none⟩), .int .i64 id, pv x y] w fun e w' => e = .returned (.bool b) ∧ SLeft w w' S (N + 2) xb L' := by
  obtain ⟨hb', cb, Dh, Dc, h1⟩ := h
  cases b with
  | false =>
    refine (put_off xb id x y w hb).mono ?_
    rintro e w' ⟨rfl, hB⟩
    simp at hL
    subst hL
    exact ⟨rfl, S, ⟨_, _, _, _, (h1.step hB).more (by omega) (by omega)⟩, OffP.of_below hB, fun b hb => .inl hb⟩
  | true =>
    simp only [Bool.and_eq_true] at hb
    simp at hL
    refine (put_on h1 id x y hf hb.1 hb.2 hN).mono ?_
    rintro e w' ⟨rfl, S', k1, k2, k3⟩
    subst hL
    exact ⟨rfl, S', k1.out, k2.out, k3.out⟩
theorem xs_drop (h : IXe w S N xb L) (id : Int) (hf : Fits id) (b : Bool) (hb : hasId L id = b) (L' : List Un) (hL : del L id = L') : Calls Try.prog 10 #[.pointer (some ⟨xb, 0, none⟩), .int .i64 id] w fun e w' => e = .returned (.bool b) ∧ SLeft w w' S N xb L' := by
  obtain ⟨hb', cb, Dh, Dc, h1⟩ := h
  subst hL
  cases b with
  | false =>
    refine (drop_no h1 id hf (lk_no hb)).mono ?_
    rintro e w' ⟨rfl, hB⟩
    rw [del_none hb]
    exact ⟨rfl, S, ⟨_, _, _, _, h1.step hB⟩, OffP.of_below hB, fun b hb => .inl hb⟩
  | true =>
    obtain ⟨t, ht⟩ := lk_yes hb
    refine (drop_yes h1 id hf t ht).mono ?_
    rintro e w' ⟨rfl, Dh', Dc', k1, k2⟩
    exact ⟨rfl, S, ⟨_, _, _, _, k1.out⟩, k2.out, fun b hb => .inl hb⟩
end
/-- The program's index in what was made since W, and blocks that it does not reach. -/
def XK (W w : World) (N xb : Nat) (L : List Un) (K : List (Nat × Obj)) : Prop := ∃ S, IXe w S N xb L ∧ (∀ b, S b → W.heap.size ≤ b) ∧ Below W.heap.size W w ∧ ∀ p ∈ K, w.heap[p.1]? = some p.2 ∧ ¬ S p.1
section
variable {W w w' : World} {N xb : Nat} {L : List Un} {K : List (Nat × Obj)}
theorem XK.step (h : XK W w N xb L K) (hb : Below w.heap.size w w') : XK W w' N xb L K := by
  obtain ⟨S, h1, h2, h3, h4⟩ := h
  exact ⟨S, h1.step hb, h2, h3.trans (hb.mono h3.size), fun p hp => ⟨(hb.block _ (lt_of_obj (h4 p hp).1)).trans (h4 p hp).1, (h4 p hp).2⟩⟩
theorem XK.bel (h : XK W w N xb L K) : Below W.heap.size W w := h.choose_spec.2.2.1
theorem XK.obj (h : XK W w N xb L K) {p : Nat × Obj} (hp : p ∈ K) : w.heap[p.1]? = some p.2 := (h.choose_spec.2.2.2 p hp).1
theorem XK.xo (h : XK W w N xb L K) : XO W w N xb L := by
  obtain ⟨S, h1, h2, h3, _⟩ := h
  exact ⟨S, h1, h2, h3⟩
theorem XO.xk (h : XO W w N xb L) : XK W w N xb L [] := by
  obtain ⟨S, h1, h2, h3⟩ := h
  exact ⟨S, h1, h2, h3, fun p hp => by cases hp⟩
theorem XK.new (h : XK W w N xb L K) (o : Obj) : XK W (w.alloc o) N xb L ((w.heap.size, o) :: K) := by
  have hb : Below w.heap.size w (w.alloc o) := (Below.refl _ _).alloc (Nat.le_refl _) _
  obtain ⟨S, h1, h2, h3, h4⟩ := h
  refine ⟨S, h1.step hb, h2, h3.trans (hb.mono h3.size), fun p hp => ?_⟩
  rcases List.mem_cons.1 hp with rfl | hp
  · exact ⟨heap_alloc_new w o, fun e => by have := h1.low _ e; simp at this⟩
  · exact ⟨(hb.block _ (lt_of_obj (h4 p hp).1)).trans (h4 p hp).1, (h4 p hp).2⟩
theorem XK.turn {L' : List Un} {N' : Nat} {S : Nat → Prop} (h2 : ∀ b, S b → W.heap.size ≤ b) (h3 : Below W.heap.size W w) (h4 : ∀ p ∈ K, w.heap[p.1]? = some p.2 ∧ ¬ S p.1) (hl : SLeft w w' S N' xb L') : XK W w' N' xb L' K := by
  obtain ⟨S', k1, k2, k3⟩ := hl
  refine ⟨S', k1, fun b hb => ?_, h3.trans (k2.below h3.size h2), fun p hp => ?_⟩
  · rcases k3 b hb with e | e
    · exact h2 b e
    · have := h3.size; omega
  · have := lt_of_obj (h4 p hp).1
    refine ⟨(k2.block _ this (h4 p hp).2).trans (h4 p hp).1, fun e => ?_⟩
    rcases k3 _ e with e | e
    · exact (h4 p hp).2 e
    · omega
theorem xk_put (h : XK W w N xb L K) (id x y : Int) (hf : Fits id) (hN : (N : Int) < 90000) (b : Bool) (hb : (onB x && onB y) = b) (L' : List Un) (hL : (if b = true then ins (del L id) ⟨id, x, y⟩ else L) = L') : Calls Try.prog 8 #[.pointer (some ⟨xb, 0, none⟩), .int .i64 id, pv x y] w fun e w' => e = .returned (.bool b) ∧ Hid (XK W w' (N + 2) xb L' K) := by
  obtain ⟨S, h1, h2, h3, h4⟩ := h
  refine (xs_put h1 id x y hf hN b hb L' hL).mono ?_
  rintro e w' ⟨rfl, hl⟩
  exact ⟨rfl, Lib.hid (XK.turn h2 h3 h4 hl)⟩
theorem xk_drop (h : XK W w N xb L K) (id : Int) (hf : Fits id) (b : Bool) (hb : hasId L id = b) (L' : List Un) (hL : del L id = L') : Calls Try.prog 10 #[.pointer (some ⟨xb, 0, none⟩), .int .i64 id] w fun e w' => e = .returned (.bool b) ∧ Hid (XK W w' N xb L' K) := by
  obtain ⟨S, h1, h2, h3, h4⟩ := h
  refine (xs_drop h1 id hf b hb L' hL).mono ?_
  rintro e w' ⟨rfl, hl⟩
  exact ⟨rfl, Lib.hid (XK.turn h2 h3 h4 hl)⟩
theorem xk_at (h : XK W w N xb L K) (id : Int) (hf : Fits id) (px py : Int) (f : Bool) (hv : match lk L id with | some t => px = t.x ∧ py = t.y ∧ f = true | none => px = 0 ∧ py = 0 ∧ f = false) : Calls Try.prog 12 #[.pointer (some ⟨xb, 0, none⟩), .int .i64 id] w fun e w' => e = .returned (.tuple #[pv px py, .bool f]) ∧ Hid (XK W w' N xb L K) ∧ Hid (Below w.heap.size w w') := by
  refine (xo_at h.xo id hf px py f hv).mono ?_
  rintro e w' ⟨rfl, _, hB⟩
  exact ⟨rfl, Lib.hid (h.step hB.out), hB⟩
theorem xk_near (h : XK W w N xb L K) (px py r : Int) (f1 : Fits px) (f2 : Fits py) (f3 : Fits r) (l : List Int) (hl : ids L (nr px py r) = l) (n : Nat) (hn : l.length = n) : Calls Try.prog 17 #[.pointer (some ⟨xb, 0, none⟩), pv px py, .int .i64 r] w fun e w' => ∃ A c, e = .returned (.slice A n c) ∧ Hid (Mei.Rd .i64 w' w'.heap.size A l) ∧ Hid (XK W w' N xb L K) ∧ Hid (Below w.heap.size w w') := by
  refine (xo_near h.xo px py r f1 f2 f3 l hl n hn).mono ?_
  rintro e w' ⟨A, c, rfl, hR, _, hB⟩
  exact ⟨A, c, rfl, hR, Lib.hid (h.step hB.out), hB⟩
theorem xk_ids (h : XK W w N xb L K) (l : List Int) (hl : ids L (fun _ => true) = l) (n : Nat) (hn : l.length = n) : Calls Try.prog 19 #[.pointer (some ⟨xb, 0, none⟩)] w fun e w' => ∃ A c, e = .returned (.slice A n c) ∧ Hid (Mei.Rd .i64 w' w'.heap.size A l) ∧ Hid (XK W w' N xb L K) ∧ Hid (Below w.heap.size w w') := by
  refine (xo_ids h.xo l hl n hn).mono ?_
  rintro e w' ⟨A, c, rfl, hR, _, hB⟩
  exact ⟨A, c, rfl, hR, Lib.hid (h.step hB.out), hB⟩
theorem xk_closest (h : XK W w N xb L K) (px py nt : Int) (f1 : Fits px) (f2 : Fits py) (f : Bool) (d k : Int) (hB : Best L px py nt (fun _ => true) f d k) : Calls Try.prog 14 #[.pointer (some ⟨xb, 0, none⟩), pv px py, .int .i64 nt] w fun e w' => e = .returned (.tuple #[.int .i64 k, .bool f]) ∧ Hid (XK W w' N xb L K) ∧ Hid (Below w.heap.size w w') := by
  refine (xo_closest h.xo px py nt f1 f2 f d k hB).mono ?_
  rintro e w' ⟨rfl, _, hB⟩
  exact ⟨rfl, Lib.hid (h.step hB.out), hB⟩
end

/-! ### both side by side -/
/-- The program's index (of the units L) and the document's (of Ly), apart, in what was made since W; and blocks that neither reaches. -/
def XZ (W w : World) (N xb gb : Nat) (L Ly : List Un) (K : List (Nat × Obj)) : Prop := ∃ S A c, IXe w S N xb L ∧ RQ w W.heap.size gb A c Ly ∧ (∀ k ∈ rbl gb A, ¬ S k) ∧ (∀ b, S b → W.heap.size ≤ b) ∧ Below W.heap.size W w ∧ ∀ p ∈ K, w.heap[p.1]? = some p.2 ∧ ¬ S p.1 ∧ p.1 ∉ rbl gb A
section
variable {W w w' : World} {N xb gb : Nat} {L Ly : List Un} {K : List (Nat × Obj)}
theorem XZ.step (h : XZ W w N xb gb L Ly K) (hb : Below w.heap.size w w') : XZ W w' N xb gb L Ly K := by
  obtain ⟨S, A, c, h1, h2, h3, h4, h5, h6⟩ := h
  exact ⟨S, A, c, h1.step hb, h2.step hb, h3, h4, h5.trans (hb.mono h5.size), fun p hp => ⟨(hb.block _ (lt_of_obj (h6 p hp).1)).trans (h6 p hp).1, (h6 p hp).2⟩⟩
theorem XZ.bel (h : XZ W w N xb gb L Ly K) : Below W.heap.size W w := by
  obtain ⟨S, A, c, h1, h2, h3, h4, h5, h6⟩ := h
  exact h5
theorem XZ.obj (h : XZ W w N xb gb L Ly K) {p : Nat × Obj} (hp : p ∈ K) : w.heap[p.1]? = some p.2 := by
  obtain ⟨S, A, c, h1, h2, h3, h4, h5, h6⟩ := h
  exact (h6 p hp).1
theorem XZ.less (h : XZ W w N xb gb L Ly K) : XZ W w N xb gb L Ly [] := by
  obtain ⟨S, A, c, h1, h2, h3, h4, h5, h6⟩ := h
  exact ⟨S, A, c, h1, h2, h3, h4, h5, fun p hp => by cases hp⟩
theorem XZ.info (h : XZ W w N xb gb L Ly K) : Cll.Good L ∧ Cll.Good Ly ∧ L.length ≤ N := by
  obtain ⟨S, A, c, h1, h2, h3, h4, h5, h6⟩ := h
  exact ⟨h1.good, h2.good, h1.len.1⟩
theorem XZ.more {M : Nat} (h : XZ W w N xb gb L Ly K) (hN : N ≤ M) (hM : (M : Int) ≤ 100000) : XZ W w M xb gb L Ly K := by
  obtain ⟨S, A, c, ⟨a1, a2, a3, a4, h1⟩, h2⟩ := h
  exact ⟨S, A, c, ⟨a1, a2, a3, a4, h1.more hN hM⟩, h2⟩
theorem XZ.new (h : XZ W w N xb gb L Ly K) (o : Obj) : XZ W (w.alloc o) N xb gb L Ly ((w.heap.size, o) :: K) := by
  have hb : Below w.heap.size w (w.alloc o) := (Below.refl _ _).alloc (Nat.le_refl _) _
  obtain ⟨S, A, c, h1, h2, h3, h4, h5, h6⟩ := h
  refine ⟨S, A, c, h1.step hb, h2.step hb, h3, h4, h5.trans (hb.mono h5.size), fun p hp => ?_⟩
  rcases List.mem_cons.1 hp with rfl | hp
  · exact ⟨heap_alloc_new w o, fun e => by have := h1.low _ e; simp at this, fun e => by have := (h2.lo' _ e).2; simp at this⟩
  · exact ⟨(hb.block _ (lt_of_obj (h6 p hp).1)).trans (h6 p hp).1, (h6 p hp).2⟩
/-- The document's index is laid beside the program's. -/
theorem XZ.start (h : XO W w N xb []) : XZ W (w.alloc (.cells #[.slice none 0 0] 29)) N xb w.heap.size [] [] [] := by
  have hb : Below w.heap.size w (w.alloc (.cells #[.slice none 0 0] 29)) := (Below.refl _ _).alloc (Nat.le_refl _) _
  obtain ⟨S, h1, h2, h3⟩ := h
  refine ⟨S, none, 0, h1.step hb, ⟨heap_alloc_new w _, ROw.of_own (Own.nil _ _), h3.size, fun k hk => (by cases hk), Cll.Good.nil, by simp⟩, fun k hk e => ?_, h2, h3.trans (hb.mono h3.size), fun p hp => by cases hp⟩
  simp [rbl, blk] at hk
  subst hk
  have := h1.low _ e
  omega
theorem xz_x {S : Nat → Prop} {A : Option Addr} {c N' : Nat} {L' : List Un} (h2 : RQ w W.heap.size gb A c Ly) (h3 : ∀ k ∈ rbl gb A, ¬ S k) (h4 : ∀ b, S b → W.heap.size ≤ b) (h5 : Below W.heap.size W w) (h6 : ∀ p ∈ K, w.heap[p.1]? = some p.2 ∧ ¬ S p.1 ∧ p.1 ∉ rbl gb A) (hl : SLeft w w' S N' xb L') : XZ W w' N' xb gb L' Ly K := by
  obtain ⟨S', k1, k2, k3⟩ := hl
  refine ⟨S', A, c, k1, h2.keep k2.size (fun k hk => k2.block k (h2.lo' k hk).2 (h3 k hk)), fun k hk e => ?_, fun b hb => ?_, h5.trans (k2.below h5.size h4), fun p hp => ?_⟩
  · rcases k3 k e with e | e
    · exact h3 k hk e
    · have := (h2.lo' k hk).2; omega
  · rcases k3 b hb with e | e
    · exact h4 b e
    · have := h5.size; omega
  · have := lt_of_obj (h6 p hp).1
    refine ⟨(k2.block _ this (h6 p hp).2.1).trans (h6 p hp).1, fun e => ?_, (h6 p hp).2.2⟩
    rcases k3 _ e with e | e
    · exact (h6 p hp).2.1 e
    · omega
theorem xz_y {S : Nat → Prop} {A : Option Addr} {c : Nat} {Ly' : List Un} (h1 : IXe w S N xb L) (h2 : RQ w W.heap.size gb A c Ly) (h3 : ∀ k ∈ rbl gb A, ¬ S k) (h4 : ∀ b, S b → W.heap.size ≤ b) (h5 : Below W.heap.size W w) (h6 : ∀ p ∈ K, w.heap[p.1]? = some p.2 ∧ ¬ S p.1 ∧ p.1 ∉ rbl gb A) (hl : RLeft w W.heap.size gb A Ly' w') : XZ W w' N xb gb L Ly' K := by
  obtain ⟨A', c', k1, k2, k3⟩ := hl
  refine ⟨S, A', c', h1.keep k2.out.size (fun b hb => k2.out.block b (h1.low b hb) (fun e => h3 b e hb)), k1.out, fun k hk e => ?_, h4, h5.trans (k2.out.below h5.size (fun k hk => (h2.lo' k hk).1)), fun p hp => ?_⟩
  · rcases k3.out k hk with e' | e'
    · exact h3 k e' e
    · have := h1.low k e; omega
  · have := lt_of_obj (h6 p hp).1
    refine ⟨(k2.out.block _ this (h6 p hp).2.2).trans (h6 p hp).1, (h6 p hp).2.1, fun e => ?_⟩
    rcases k3.out _ e with e | e
    · exact (h6 p hp).2.2 e
    · omega
theorem xz_xput (h : XZ W w N xb gb L Ly K) (id x y : Int) (hf : Fits id) (hN : (N : Int) < 90000) (b : Bool) (hb : (onB x && onB y) = b) (L' : List Un) (hL : (if b = true then ins (del L id) ⟨id, x, y⟩ else L) = L') : Calls Try.prog 8 #[.pointer (some ⟨xb, 0, none⟩), .int .i64 id, pv x y] w fun e w' => e = .returned (.bool b) ∧ Hid (XZ W w' (N + 2) xb gb L' Ly K) := by
  obtain ⟨S, A, c, h1, h2, h3, h4, h5, h6⟩ := h
  refine (xs_put h1 id x y hf hN b hb L' hL).mono ?_
  rintro e w' ⟨rfl, hl⟩
  exact ⟨rfl, Lib.hid (xz_x h2 h3 h4 h5 h6 hl)⟩
theorem xz_xdrop (h : XZ W w N xb gb L Ly K) (id : Int) (hf : Fits id) (b : Bool) (hb : hasId L id = b) (L' : List Un) (hL : del L id = L') : Calls Try.prog 10 #[.pointer (some ⟨xb, 0, none⟩), .int .i64 id] w fun e w' => e = .returned (.bool b) ∧ Hid (XZ W w' N xb gb L' Ly K) := by
  obtain ⟨S, A, c, h1, h2, h3, h4, h5, h6⟩ := h
  refine (xs_drop h1 id hf b hb L' hL).mono ?_
  rintro e w' ⟨rfl, hl⟩
  exact ⟨rfl, Lib.hid (xz_x h2 h3 h4 h5 h6 hl)⟩
theorem xz_yput (h : XZ W w N xb gb L Ly K) (id x y : Int) (hf : Fits id) (hS : (Ly.length : Int) < 1000) (b : Bool) (hb : (onB x && onB y) = b) (Ly' : List Un) (hL : (if b = true then ins (del Ly id) ⟨id, x, y⟩ else Ly) = Ly') : Calls Try.prog 9 #[.pointer (some ⟨gb, 0, none⟩), .int .i64 id, pv x y] w fun e w' => e = .returned (.bool b) ∧ Hid (XZ W w' N xb gb L Ly' K) := by
  have h' := h
  obtain ⟨S, A, c, h1, h2, h3, h4, h5, h6⟩ := h
  cases b with
  | false =>
    refine (rput_off gb id x y w hb).mono ?_
    rintro e w' ⟨rfl, hB⟩
    simp at hL
    subst hL
    exact ⟨rfl, Lib.hid (h'.step hB)⟩
  | true =>
    simp only [Bool.and_eq_true] at hb
    simp at hL
    subst hL
    refine (rput_on h2 hS id x y hf hb.1 hb.2).mono ?_
    rintro e w' ⟨rfl, hl⟩
    exact ⟨rfl, Lib.hid (xz_y h1 h2 h3 h4 h5 h6 hl)⟩
theorem xz_ydrop (h : XZ W w N xb gb L Ly K) (id : Int) (hS : (Ly.length : Int) < 1000) (b : Bool) (hb : hasId Ly id = b) (Ly' : List Un) (hL : del Ly id = Ly') : Calls Try.prog 11 #[.pointer (some ⟨gb, 0, none⟩), .int .i64 id] w fun e w' => e = .returned (.bool b) ∧ Hid (XZ W w' N xb gb L Ly' K) := by
  obtain ⟨S, A, c, h1, h2, h3, h4, h5, h6⟩ := h
  subst hL
  refine (rdrop h2 id b hb hS).mono ?_
  rintro e w' ⟨rfl, hl⟩
  exact ⟨rfl, Lib.hid (xz_y h1 h2 h3 h4 h5 h6 hl)⟩
theorem XZ.xo (h : XZ W w N xb gb L Ly K) : XO W w N xb L := by
  obtain ⟨S, A, c, h1, h2, h3, h4, h5, h6⟩ := h
  exact ⟨S, h1, h4, h5⟩
theorem xz_xat (h : XZ W w N xb gb L Ly K) (id : Int) (hf : Fits id) (px py : Int) (f : Bool) (hv : match lk L id with | some t => px = t.x ∧ py = t.y ∧ f = true | none => px = 0 ∧ py = 0 ∧ f = false) : Calls Try.prog 12 #[.pointer (some ⟨xb, 0, none⟩), .int .i64 id] w fun e w' => e = .returned (.tuple #[pv px py, .bool f]) ∧ Hid (XZ W w' N xb gb L Ly K) := by
  refine (xo_at h.xo id hf px py f hv).mono ?_
  rintro e w' ⟨rfl, _, hB⟩
  exact ⟨rfl, Lib.hid (h.step hB.out)⟩
theorem xz_yat (h : XZ W w N xb gb L Ly K) (id : Int) (hS : (Ly.length : Int) < 1000) (px py : Int) (f : Bool) (hv : match lk Ly id with | some t => px = t.x ∧ py = t.y ∧ f = true | none => px = 0 ∧ py = 0 ∧ f = false) : Calls Try.prog 13 #[.pointer (some ⟨gb, 0, none⟩), .int .i64 id] w fun e w' => e = .returned (.tuple #[pv px py, .bool f]) ∧ Hid (XZ W w' N xb gb L Ly K) := by
  have h' := h
  obtain ⟨S, A, c, h1, h2, h3, h4, h5, h6⟩ := h
  refine (rat_any h2 id hS px py f hv).mono ?_
  rintro e w' ⟨rfl, hB⟩
  exact ⟨rfl, Lib.hid (h'.step hB)⟩
theorem xz_xclosest (h : XZ W w N xb gb L Ly K) (px py nt : Int) (f1 : Fits px) (f2 : Fits py) (f : Bool) (d k : Int) (hB : Best L px py nt (fun _ => true) f d k) : Calls Try.prog 14 #[.pointer (some ⟨xb, 0, none⟩), pv px py, .int .i64 nt] w fun e w' => e = .returned (.tuple #[.int .i64 k, .bool f]) ∧ Hid (XZ W w' N xb gb L Ly K) := by
  refine (xo_closest h.xo px py nt f1 f2 f d k hB).mono ?_
  rintro e w' ⟨rfl, _, hB⟩
  exact ⟨rfl, Lib.hid (h.step hB.out)⟩
theorem xz_yclosest (h : XZ W w N xb gb L Ly K) (hS : (Ly.length : Int) < 1000) (px py nt : Int) (f1 : Fits px) (f2 : Fits py) (f : Bool) (d k : Int) (hB : Best Ly px py nt (fun _ => true) f d k) : Calls Try.prog 15 #[.pointer (some ⟨gb, 0, none⟩), pv px py, .int .i64 nt] w fun e w' => e = .returned (.tuple #[.int .i64 k, .bool f]) ∧ Hid (XZ W w' N xb gb L Ly K) := by
  have h' := h
  obtain ⟨S, A, c, h1, h2, h3, h4, h5, h6⟩ := h
  refine (rclosest_ix h2 hS px py nt f1 f2).mono ?_
  rintro e w' ⟨f', d', k', rfl, k1, k2⟩
  obtain ⟨rfl, _, rfl⟩ := k1.out.one hB
  exact ⟨rfl, Lib.hid (h'.step k2.out)⟩
theorem xz_xnear (h : XZ W w N xb gb L Ly K) (px py r : Int) (f1 : Fits px) (f2 : Fits py) (f3 : Fits r) (l : List Int) (hl : ids L (nr px py r) = l) : Calls Try.prog 17 #[.pointer (some ⟨xb, 0, none⟩), pv px py, .int .i64 r] w fun e w' => ∃ A c, e = .returned (.slice A l.length c) ∧ Hid (Mei.Rd .i64 w' w'.heap.size A l) ∧ Hid (XZ W w' N xb gb L Ly K) ∧ Hid (Below w.heap.size w w') := by
  refine (xo_near h.xo px py r f1 f2 f3 l hl _ rfl).mono ?_
  rintro e w' ⟨A, c, rfl, hR, _, hB⟩
  exact ⟨A, c, rfl, hR, Lib.hid (h.step hB.out), hB⟩
theorem xz_xids (h : XZ W w N xb gb L Ly K) (l : List Int) (hl : ids L (fun _ => true) = l) : Calls Try.prog 19 #[.pointer (some ⟨xb, 0, none⟩)] w fun e w' => ∃ A c, e = .returned (.slice A l.length c) ∧ Hid (Mei.Rd .i64 w' w'.heap.size A l) ∧ Hid (XZ W w' N xb gb L Ly K) ∧ Hid (Below w.heap.size w w') := by
  refine (xo_ids h.xo l hl _ rfl).mono ?_
  rintro e w' ⟨A, c, rfl, hR, _, hB⟩
  exact ⟨A, c, rfl, hR, Lib.hid (h.step hB.out), hB⟩
theorem xz_ynear (h : XZ W w N xb gb L Ly K) (hS : (Ly.length : Int) < 1000) (px py r : Int) (f1 : Fits px) (f2 : Fits py) (f3 : Fits r) (l : List Int) (hl : ids Ly (nr px py r) = l) : Calls Try.prog 18 #[.pointer (some ⟨gb, 0, none⟩), pv px py, .int .i64 r] w fun e w' => ∃ A c, e = .returned (.slice A l.length c) ∧ Hid (Mei.Rd .i64 w' w'.heap.size A l) ∧ Hid (XZ W w' N xb gb L Ly K) ∧ Hid (Below w.heap.size w w') := by
  have h' := h
  obtain ⟨S, A, c, h1, h2, h3, h4, h5, h6⟩ := h
  refine (rnear_ix h2 hS px py r f1 f2 f3).mono ?_
  rintro e w' ⟨A', c', l', rfl, k1, k2, k3⟩
  obtain rfl : l' = l := k1.out.trans hl
  exact ⟨A', c', rfl, k2, Lib.hid (h'.step k3.out), k3⟩
theorem xz_yids (h : XZ W w N xb gb L Ly K) (hS : (Ly.length : Int) < 1000) (l : List Int) (hl : ids Ly (fun _ => true) = l) : Calls Try.prog 20 #[.pointer (some ⟨gb, 0, none⟩)] w fun e w' => ∃ A c, e = .returned (.slice A l.length c) ∧ Hid (Mei.Rd .i64 w' w'.heap.size A l) ∧ Hid (XZ W w' N xb gb L Ly K) ∧ Hid (Below w.heap.size w w') := by
  have h' := h
  obtain ⟨S, A, c, h1, h2, h3, h4, h5, h6⟩ := h
  refine (rids_any h2 hS).mono ?_
  rintro e w' ⟨A', c', l', rfl, k1, k2, k3⟩
  obtain rfl : l' = l := k1.out.trans hl
  exact ⟨A', c', rfl, k2, Lib.hid (h'.step k3.out), k3⟩
end
end Go.Proofs.Ytehllnbpianpfaa.Con
