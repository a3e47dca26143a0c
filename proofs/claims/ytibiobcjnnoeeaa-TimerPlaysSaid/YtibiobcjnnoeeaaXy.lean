/-
  Both queues side by side, and blocks that neither reaches.
-/
import Derived.Test.YtibiobcjnnoeeaaRtg
namespace Go.Proofs.Ytibiobcjnnoeeaa.Con
open Go.RowKit Tmr Go.Maps

/-- The program's queue and the document's, in what was made since W, apart; and blocks that hold what they hold, apart from both. -/
def XY (W w : World) (q mb gb : Nat) (Sx : List Tm) (lx : Int) (Sy : List Tm) (ly : Int) (K : List (Nat × Obj)) : Prop :=
  ∃ A c l A1 c1, TQ w W.heap.size q mb A c l Sx lx ∧ RQ w W.heap.size gb A1 c1 Sy ly ∧ (∀ k ∈ bls q mb A, k ∉ rbl gb A1) ∧ Below W.heap.size W w ∧ ∀ p ∈ K, w.heap[p.1]? = some p.2 ∧ W.heap.size ≤ p.1 ∧ p.1 ∉ bls q mb A ∧ p.1 ∉ rbl gb A1
section
variable {W w w' : World} {q mb gb : Nat} {Sx Sy : List Tm} {lx ly : Int} {K : List (Nat × Obj)}
theorem lt_of_obj {w : World} {b : Nat} {o : Obj} (h : w.heap[b]? = some o) : b < w.heap.size := (Array.getElem?_eq_some_iff.1 h).1
theorem xturn {A : Option Addr} {c : Nat} {l : List Tm} {A1 : Option Addr} {c1 : Nat} {A2 : Option Addr} {c2 : Nat} {l2 Sx' : List Tm} {lx' : Int} (hT : TQ w W.heap.size q mb A c l Sx lx) (hR : RQ w W.heap.size gb A1 c1 Sy ly) (hd : ∀ k ∈ bls q mb A, k ∉ rbl gb A1) (hb : Below W.heap.size W w) (hK : ∀ p ∈ K, w.heap[p.1]? = some p.2 ∧ W.heap.size ≤ p.1 ∧ p.1 ∉ bls q mb A ∧ p.1 ∉ rbl gb A1)
    (hT2 : TQ w' W.heap.size q mb A2 c2 l2 Sx' lx') (ho : Off w w' (bls q mb A)) (hs : ∀ k ∈ bls q mb A2, k ∈ bls q mb A ∨ w.heap.size ≤ k) : XY W w' q mb gb Sx' lx' Sy ly K := by
  refine ⟨A2, c2, l2, A1, c1, hT2, hR.off ho (fun k hk hm => hd k hm hk), fun k hk hm => ?_, hT.low hb ho, fun p hp => ?_⟩
  · rcases hs k hk with h | h
    · exact hd k h hm
    · have := (hR.lo' k hm).2; omega
  · obtain ⟨h1, h0, h2, h3⟩ := hK p hp
    refine ⟨(ho.block _ (lt_of_obj h1) h2).trans h1, h0, fun hm => ?_, h3⟩
    rcases hs _ hm with h | h
    · exact h2 h
    · have := lt_of_obj h1; omega
theorem yturn {A : Option Addr} {c : Nat} {l : List Tm} {A1 : Option Addr} {c1 : Nat} {A2 : Option Addr} {c2 : Nat} {Sy' : List Tm} {ly' : Int} (hT : TQ w W.heap.size q mb A c l Sx lx) (hR : RQ w W.heap.size gb A1 c1 Sy ly) (hd : ∀ k ∈ bls q mb A, k ∉ rbl gb A1) (hb : Below W.heap.size W w) (hK : ∀ p ∈ K, w.heap[p.1]? = some p.2 ∧ W.heap.size ≤ p.1 ∧ p.1 ∉ bls q mb A ∧ p.1 ∉ rbl gb A1)
    (hR2 : RQ w' W.heap.size gb A2 c2 Sy' ly') (ho : Off w w' (rbl gb A1)) (hs : ∀ k ∈ rbl gb A2, k ∈ rbl gb A1 ∨ w.heap.size ≤ k) : XY W w' q mb gb Sx lx Sy' ly' K := by
  refine ⟨A, c, l, A2, c2, hT.off ho hd, hR2, fun k hk hm => ?_, hb.trans (ho.below hb.size (fun k hk => (hR.lo' k hk).1)), fun p hp => ?_⟩
  · rcases hs k hm with h | h
    · exact hd k hk h
    · have := (hT.qs.que.lo k hk).2; omega
  · obtain ⟨h1, h0, h2, h3⟩ := hK p hp
    refine ⟨(ho.block _ (lt_of_obj h1) h3).trans h1, h0, h2, fun hm => ?_⟩
    rcases hs _ hm with h | h
    · exact h3 h
    · have := lt_of_obj h1; omega
theorem XY.step (h : XY W w q mb gb Sx lx Sy ly K) (hb : Below w.heap.size w w') : XY W w' q mb gb Sx lx Sy ly K := by
  obtain ⟨A, c, l, A1, c1, hT, hR, hd, h0, hK⟩ := h
  exact ⟨A, c, l, A1, c1, hT.step hb, hR.step hb, hd, h0.trans (hb.mono h0.size), fun p hp => ⟨(hb.block _ (lt_of_obj (hK p hp).1)).trans (hK p hp).1, (hK p hp).2⟩⟩
theorem XY.below (h : XY W w q mb gb Sx lx Sy ly K) : Below W.heap.size W w := by
  obtain ⟨A, c, l, A1, c1, hT, hR, hd, h0, hK⟩ := h
  exact h0
theorem XY.less (h : XY W w q mb gb Sx lx Sy ly K) : XY W w q mb gb Sx lx Sy ly [] := by
  obtain ⟨A, c, l, A1, c1, hT, hR, hd, h0, hK⟩ := h
  exact ⟨A, c, l, A1, c1, hT, hR, hd, h0, fun p hp => by cases hp⟩
theorem XY.obj (h : XY W w q mb gb Sx lx Sy ly K) {p : Nat × Obj} (hp : p ∈ K) : w.heap[p.1]? = some p.2 := by
  obtain ⟨A, c, l, A1, c1, hT, hR, hd, h0, hK⟩ := h
  exact (hK p hp).1
theorem XY.lenx (h : XY W w q mb gb Sx lx Sy ly K) : (Sx.length : Int) ≤ 2000 := by
  obtain ⟨A, c, l, A1, c1, hT, hR, hd, h0, hK⟩ := h
  rw [← hT.len]; exact hT.qs.len
/-- The document's queue in memory: its cells. -/
theorem XY.ycell (h : XY W w q mb gb Sx lx Sy ly K) : ∃ A1 c1, w.cell? ⟨gb, 0, none⟩ = some (.slice A1 Sy.length c1) := by
  obtain ⟨A, c, l, A1, c1, hT, hR, hd, h0, hK⟩ := h
  exact ⟨A1, c1, hR.cell0⟩
theorem XY.new (h : XY W w q mb gb Sx lx Sy ly K) (cs : Array Value) (t : TypeId) : XY W (w.alloc (.cells cs t)) q mb gb Sx lx Sy ly ((w.heap.size, .cells cs t) :: K) := by
  obtain ⟨A, c, l, A1, c1, hT, hR, hd, h0, hK⟩ := h
  have hb : Below w.heap.size w (w.alloc (.cells cs t)) := (Below.refl _ _).alloc (Nat.le_refl _) _
  refine ⟨A, c, l, A1, c1, hT.step hb, hR.step hb, hd, h0.trans (hb.mono h0.size), fun p hp => ?_⟩
  rcases List.mem_cons.1 hp with rfl | hp
  · exact ⟨heap_alloc_new w (.cells cs t), h0.size, fun hm => by have := (hT.qs.que.lo _ hm).2; simp at this, fun hm => by have := (hR.lo' _ hm).2; simp at this⟩
  · exact ⟨(hb.block _ (lt_of_obj (hK p hp).1)).trans (hK p hp).1, (hK p hp).2⟩

theorem xy_xlen (h : XY W w q mb gb Sx lx Sy ly K) (n : Nat) (hn : Sx.length = n) : Calls Try.prog 11 #[.pointer (some ⟨q, 0, none⟩)] w fun e w' => e = .returned (.int .i64 n) ∧ w = w' := by
  obtain ⟨A, c, l, A1, c1, hT, hR, hd, h0, hK⟩ := h
  exact qlen_s hT n hn
theorem xy_xadd (h : XY W w q mb gb Sx lx Sy ly K) (hS : (Sx.length : Int) < 1000) (due tag m : Int) (hm : lx + 1 = m) (hmb : m ≤ 100000) : Calls Try.prog 12 #[.pointer (some ⟨q, 0, none⟩), .int .i64 due, .int .i64 tag] w fun e w' => e = .returned (.tuple #[.int .i64 m, .int .i64 0]) ∧ Hid (XY W w' q mb gb (Sx ++ [⟨due, tag, m⟩]) m Sy ly K) := by
  obtain ⟨A, c, l, A1, c1, hT, hR, hd, h0, hK⟩ := h
  refine (add_any hT Sx.length rfl (by omega) due tag m hm hmb).mono ?_
  rintro e w' ⟨rfl, A2, c2, l2, k1, k2, k3⟩
  exact ⟨rfl, Lib.hid (xturn hT hR hd h0 hK k1.out k2.out k3.out)⟩
theorem xy_yadd (h : XY W w q mb gb Sx lx Sy ly K) (hS : (Sy.length : Int) < 1000) (due tag m : Int) (hm : ly + 1 = m) (hmb : m ≤ 100000) : Calls Try.prog 17 #[.pointer (some ⟨gb, 0, none⟩), .int .i64 due, .int .i64 tag] w fun e w' => e = .returned (.tuple #[.int .i64 m, .int .i64 0]) ∧ Hid (XY W w' q mb gb Sx lx (Sy ++ [⟨due, tag, m⟩]) m K) := by
  obtain ⟨A, c, l, A1, c1, hT, hR, hd, h0, hK⟩ := h
  refine (radd hR hS due tag m hm hmb).mono ?_
  rintro e w' ⟨rfl, hL⟩
  obtain ⟨A2, c2, k1, k2, k3⟩ := hL.out
  exact ⟨rfl, Lib.hid (yturn hT hR hd h0 hK k1.out k2.out k3.out)⟩
theorem xy_xcancel (h : XY W w q mb gb Sx lx Sy ly K) (id : Int) (hw : -9223372036854775808 ≤ id ∧ id ≤ 9223372036854775807) (x : Bool) (hx : hasId Sx id = x) : Calls Try.prog 14 #[.pointer (some ⟨q, 0, none⟩), .int .i64 id] w fun e w' => e = .returned (.bool x) ∧ Hid (XY W w' q mb gb (del Sx id) lx Sy ly K) := by
  have h' := h
  obtain ⟨A, c, l, A1, c1, hT, hR, hd, h0, hK⟩ := h
  cases x with
  | false =>
    refine (cancel_no hT id hw hx).mono ?_
    rintro e w' ⟨rfl, rfl⟩
    rw [del_none hx]
    exact ⟨rfl, Lib.hid h'⟩
  | true =>
    refine (cancel_yes hT id hw hx).mono ?_
    rintro e w' ⟨rfl, l2, k1, k2⟩
    exact ⟨rfl, Lib.hid (xturn hT hR hd h0 hK k1.out k2.out (fun k hk => .inl hk))⟩
theorem xy_ycancel (h : XY W w q mb gb Sx lx Sy ly K) (hS : (Sy.length : Int) < 1000) (id : Int) (x : Bool) (hx : hasId Sy id = x) : Calls Try.prog 18 #[.pointer (some ⟨gb, 0, none⟩), .int .i64 id] w fun e w' => e = .returned (.bool x) ∧ Hid (XY W w' q mb gb Sx lx (del Sy id) ly K) := by
  obtain ⟨A, c, l, A1, c1, hT, hR, hd, h0, hK⟩ := h
  refine (rcancel hR id x hx hS).mono ?_
  rintro e w' ⟨rfl, A2, c2, k1, k2, k3⟩
  exact ⟨rfl, Lib.hid (yturn hT hR hd h0 hK k1.out k2.out k3.out)⟩
theorem xy_xtag (h : XY W w q mb gb Sx lx Sy ly K) (tag : Int) : Calls Try.prog 19 #[.pointer (some ⟨q, 0, none⟩), .int .i64 tag] w fun e w' => ∃ n : Nat, e = .returned (.int .i64 n) ∧ Hid (n + (delTag Sx tag).length = Sx.length) ∧ Hid (XY W w' q mb gb (delTag Sx tag) lx Sy ly K) := by
  obtain ⟨A, c, l, A1, c1, hT, hR, hd, h0, hK⟩ := h
  refine (ctag_any hT tag).mono ?_
  rintro e w' ⟨n, rfl, hn, l2, k1, k2⟩
  exact ⟨n, rfl, hn, Lib.hid (xturn hT hR hd h0 hK k1.out k2.out (fun k hk => .inl hk))⟩
theorem xy_ytag (h : XY W w q mb gb Sx lx Sy ly K) (hS : (Sy.length : Int) < 1000) (tag : Int) (n : Nat) (hn : n + (delTag Sy tag).length = Sy.length) : Calls Try.prog 20 #[.pointer (some ⟨gb, 0, none⟩), .int .i64 tag] w fun e w' => e = .returned (.int .i64 n) ∧ Hid (XY W w' q mb gb Sx lx (delTag Sy tag) ly K) := by
  obtain ⟨A, c, l, A1, c1, hT, hR, hd, h0, hK⟩ := h
  refine (rtag hR tag hS).mono ?_
  rintro e w' ⟨n', rfl, hn', A2, c2, k1, k2, k3⟩
  have : n' = n := by have := hn'.out; omega
  subst this
  exact ⟨rfl, Lib.hid (yturn hT hR hd h0 hK k1.out k2.out k3.out)⟩
/-- A row that was answered, among the blocks that are kept. -/
def Rw (K : List (Nat × Obj)) (A : Option Addr) (C : List Tm) : Prop :=
  (A = none ∧ C = [] ∧ K = []) ∨ ∃ b cur, A = some ⟨b, 0, none⟩ ∧ K = [(b, .cells cur 33 (0, 0))] ∧ C.length * 3 ≤ cur.size ∧ cur.toList.take (C.length * 3) = tvs C
theorem xy_xdue (h : XY W w q mb gb Sx lx Sy ly K) (now : Int) : Calls Try.prog 13 #[.pointer (some ⟨q, 0, none⟩), .int .i64 now] w fun e w' => ∃ Ac cc K', e = .returned (.slice Ac (come Sx now).length cc) ∧ Hid (Rw K' Ac (come Sx now)) ∧ Hid (XY W w' q mb gb (rest Sx now) lx Sy ly (K' ++ K)) ∧ Hid (∀ p ∈ K', ∀ p' ∈ K, p.1 ≠ p'.1) := by
  obtain ⟨A, c, l, A1, c1, hT, hR, hd, h0, hK⟩ := h
  refine (due_any hT now _ _ rfl rfl).mono ?_
  rintro e w' ⟨Ac, cc, rfl, hO, l2, k1, k2⟩
  have hlow := h0.size
  obtain ⟨B, c3, l3, B1, c4, j1, j2, j3, j4, j5⟩ := xturn hT hR hd h0 hK k1.out k2.out (fun k hk => .inl hk)
  rcases hO.out.cases with ⟨e1, e2, _⟩ | ⟨b, cur, e1, hb, hc, hg, hs, _, hx⟩
  · exact ⟨Ac, cc, [], rfl, Lib.hid (.inl ⟨e1, e2, rfl⟩), Lib.hid ⟨A, c, l2, A1, c1, k1.out, hR.off k2.out (fun k hk hm => hd k hm hk), hd, j4, fun p hp => ⟨(k2.out.block _ (lt_of_obj (hK p hp).1) (hK p hp).2.2.1).trans (hK p hp).1, (hK p hp).2⟩⟩, Lib.hid (fun p hp => by cases hp)⟩
  · refine ⟨Ac, cc, [(b, .cells cur 33 (0, 0))], rfl, Lib.hid (.inr ⟨b, cur, e1, rfl, by rw [hs]; exact Nat.mul_le_mul_right 3 hc, hx⟩), Lib.hid ⟨A, c, l2, A1, c1, k1.out, hR.off k2.out (fun k hk hm => hd k hm hk), hd, j4, fun p hp => ?_⟩, Lib.hid (fun p hp p' hp' => ?_)⟩
    · rcases List.mem_append.1 hp with hp | hp
      · simp at hp
        subst hp
        exact ⟨hg, by simp only; omega, fun hm => by have := (hT.qs.que.lo _ hm).2; simp only at this; omega, fun hm => by have := (hR.lo' _ hm).2; simp only at this; omega⟩
      · exact ⟨(k2.out.block _ (lt_of_obj (hK p hp).1) (hK p hp).2.2.1).trans (hK p hp).1, (hK p hp).2⟩
    · simp at hp
      subst hp
      have := lt_of_obj (hK p' hp').1
      simp only; omega
theorem xy_ydue (h : XY W w q mb gb Sx lx Sy ly K) (hS : (Sy.length : Int) < 1000) (now : Int) (C S' : List Tm) (hC : come Sy now = C) (hS' : rest Sy now = S') : Calls Try.prog 21 #[.pointer (some ⟨gb, 0, none⟩), .int .i64 now] w fun e w' => ∃ Ac cc, e = .returned (.slice Ac C.length cc) ∧ Hid (RT w' w'.heap.size Ac C) ∧ Hid (XY W w' q mb gb Sx lx S' ly K) := by
  obtain ⟨A, c, l, A1, c1, hT, hR, hd, h0, hK⟩ := h
  refine (rdue hR now hS C S' hC hS').mono ?_
  rintro e w' ⟨Ac, cc, rfl, hO, A2, c2, k1, k2, k3⟩
  exact ⟨Ac, cc, rfl, Lib.hid hO.out.rt, Lib.hid (yturn hT hR hd h0 hK k1.out k2.out k3.out)⟩
theorem xy_xnone (h : XY W w q mb gb Sx lx Sy ly K) (hS : first Sx = none) : Calls Try.prog 9 #[.pointer (some ⟨q, 0, none⟩)] w fun e w' => e = .returned (.tuple #[.agg #[.int .i64 0, .int .i64 0, .int .i64 0], .bool false]) ∧ Hid (XY W w' q mb gb Sx lx Sy ly K) ∧ Hid (Below w.heap.size w w') := by
  have h' := h
  obtain ⟨A, c, l, A1, c1, hT, hR, hd, h0, hK⟩ := h
  refine (next_none hT hS).mono ?_
  rintro e w' ⟨rfl, hb⟩
  exact ⟨rfl, Lib.hid (h'.step hb), Lib.hid hb⟩
theorem xy_xsome (h : XY W w q mb gb Sx lx Sy ly K) (t : Tm) (hS : first Sx = some t) : Calls Try.prog 9 #[.pointer (some ⟨q, 0, none⟩)] w fun e w' => e = .returned (.tuple #[.agg #[.int .i64 t.due, .int .i64 t.tag, .int .i64 t.id], .bool true]) ∧ Hid (XY W w' q mb gb Sx lx Sy ly K) ∧ Hid (Below w.heap.size w w') := by
  have h' := h
  obtain ⟨A, c, l, A1, c1, hT, hR, hd, h0, hK⟩ := h
  refine (next_some hT t hS).mono ?_
  rintro e w' ⟨rfl, hb⟩
  exact ⟨rfl, Lib.hid (h'.step hb), Lib.hid hb⟩
theorem xy_ynone (h : XY W w q mb gb Sx lx Sy ly K) (hS : first Sy = none) : Calls Try.prog 10 #[.pointer (some ⟨gb, 0, none⟩)] w fun e w' => e = .returned (.tuple #[.agg #[.int .i64 0, .int .i64 0, .int .i64 0], .bool false]) ∧ Hid (XY W w' q mb gb Sx lx Sy ly K) ∧ Hid (Below w.heap.size w w') := by
  have h' := h
  obtain ⟨A, c, l, A1, c1, hT, hR, hd, h0, hK⟩ := h
  refine (rnext_none hR hS).mono ?_
  rintro e w' ⟨rfl, hb⟩
  exact ⟨rfl, Lib.hid (h'.step hb), Lib.hid hb⟩
theorem xy_ysome (h : XY W w q mb gb Sx lx Sy ly K) (t : Tm) (hS : first Sy = some t) : Calls Try.prog 10 #[.pointer (some ⟨gb, 0, none⟩)] w fun e w' => e = .returned (.tuple #[.agg #[.int .i64 t.due, .int .i64 t.tag, .int .i64 t.id], .bool true]) ∧ Hid (XY W w' q mb gb Sx lx Sy ly K) ∧ Hid (Below w.heap.size w w') := by
  have h' := h
  obtain ⟨A, c, l, A1, c1, hT, hR, hd, h0, hK⟩ := h
  refine (rnext_some hR t hS).mono ?_
  rintro e w' ⟨rfl, hb⟩
  exact ⟨rfl, Lib.hid (h'.step hb), Lib.hid hb⟩
end
end Go.Proofs.Ytibiobcjnnoeeaa.Con
