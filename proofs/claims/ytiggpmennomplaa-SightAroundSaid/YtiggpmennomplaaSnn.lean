/-
  The contract of Seen: for every grid whose walls read as a list, every tile and every number: the tiles of Around to which one sees, in its order, in new memory.
-/
import Derived.Test.YtiggpmennomplaaDel
namespace Go.Proofs.Ytiggpmennomplaa.Con
open Go.RowKit Go.Shelf Lin Arn

theorem rb_later {W V : World} {A : Option Addr} {l : List Bool} (h : RB W W.heap.size A l) (hb : Below W.heap.size W V) : RB V V.heap.size A l := by
  rcases h.below hb (Nat.le_refl _) with e | ⟨b, off, e, hlt, hc⟩
  · exact .inl e
  · exact .inr ⟨b, off, e, Nat.lt_of_lt_of_le hlt hb.size, hc⟩

/-- What Seen tells. -/
def seenL (a : Arn.Ask) : List Tile := (aroundOf a).filter (fun q => seesB a.W a.H a.l a.px a.py q.1.1 q.1.2)
theorem around_few (a : Arn.Ask) : (aroundOf a).length ≤ 65536 := by
  unfold aroundOf
  split
  · next h =>
    have hWH : (1 ≤ a.W ∧ a.W ≤ 256) ∧ 1 ≤ a.H ∧ a.H ≤ 256 := by
      have := h.1
      unfold rightB at this
      simp only [Bool.and_eq_true] at this
      exact ⟨side_in this.1.1, side_in this.1.2⟩
    unfold around
    exact Nat.le_trans (List.length_filter_le _ _) (boxed_len a hWH.1 hWH.2)
  · simp

/-- A grid and a tile in two boxes. -/
structure G2 (W H : Int) (A : Option Addr) (n c : Nat) (ax ay : Int) (s : Nat) (V : World) : Prop where
  g : V.heap[s]? = some (.cells #[.int .i64 W, .int .i64 H, .slice A n c] 24 (0, 0))
  a : BoxP V (s + 1) ax ay
theorem G2.cells {W H : Int} {A : Option Addr} {n c : Nat} {ax ay : Int} {s : Nat} {V : World} (h : G2 W H A n c ax ay s V) :
    V.cell? ⟨s, 0, none⟩ = some (.int .i64 W) ∧ V.cell? ⟨s, 1, none⟩ = some (.int .i64 H) ∧ V.cell? ⟨s, 2, none⟩ = some (.slice A n c) ∧ V.cell? ⟨s + 1, 0, none⟩ = some (.int .i64 ax) ∧ V.cell? ⟨s + 1, 1, none⟩ = some (.int .i64 ay) :=
  ⟨by simp [World.cell?, h.g], by simp [World.cell?, h.g], by simp [World.cell?, h.g], h.a.cell0, h.a.cell1⟩
theorem G2.below {W H : Int} {A : Option Addr} {n c : Nat} {ax ay : Int} {s B : Nat} {V V' : World} (h : G2 W H A n c ax ay s V) (hb : Below B V V') (hs : s + 1 < B) : G2 W H A n c ax ay s V' :=
  ⟨(hb.block _ (by omega)).trans h.g, h.a.kept (hb.block _ hs)⟩
abbrev ga (W H : Int) (A : Option Addr) (n c : Nat) (ax ay : Int) (w : World) : World := (w.alloc (.cells #[.int .i64 W, .int .i64 H, .slice A n c] 24)).alloc (.cells #[.int .i64 ax, .int .i64 ay] 26)
theorem ga_g2 (W H : Int) (A : Option Addr) (n c : Nat) (ax ay : Int) (w : World) : G2 W H A n c ax ay w.heap.size (ga W H A n c ax ay w) := ⟨old_at (new_at _ _ rfl), new_at _ _ (by simp)⟩
theorem ga_below (W H : Int) (A : Option Addr) (n c : Nat) (ax ay : Int) (w : World) : Below w.heap.size w (ga W H A n c ax ay w) := ((Below.refl _ w).alloc (Nat.le_refl _) _).alloc (by simp) _

theorem closure_any {W H : Int} {A : Option Addr} {l : List Bool} {c : Nat} {ax ay x y : Int} {s : Nat} {V : World} (hg : G2 W H A l.length c ax ay s V) (hrb : RB V V.heap.size A l) :
    Calls Try.prog 34 #[pv x y, pt s, pt (s + 1)] V fun e w' => e = .returned (.bool (!seesB W H l ax ay x y)) ∧ Below V.heap.size V w' := by
  have hb := below_alloc V (.cells #[.int .i64 x, .int .i64 y] 26)
  have hse := Sees_any W H A l c ax ay x y (V.alloc (.cells #[.int .i64 x, .int .i64 y] 26)) (rb_later hrb hb)
  have HSE := Lib.hid hse
  obtain ⟨c0, c1, c2, c3, c4⟩ := hg.cells
  have hl := hg.a.lt
  have hl2 : s < V.heap.size := by omega
  clear hse
  go_enter Try.func34, Try.ntmps34
  go_wp2_with (first | ((with_reducible refine HSE.out.mono ?_); rintro e w1 ⟨rfl, hB1⟩))
  go_ret
  exact ⟨rfl, hb.trans (hB1.mono hb.size)⟩

set_option maxRecDepth 100000 in
theorem seen_any (a : Arn.Ask) (w : World) (h1 : Fits a.px) (h2 : Fits a.py) (h3 : Fits a.r) (hl : RB w w.heap.size a.A a.l) :
    Calls Try.prog 16 #[gv a.W a.H a.A a.l.length a.c, pv a.px a.py, .int .i64 a.r] w fun e w' => (∃ v, e = .returned v ∧ OwnT w' w.heap.size v (seenL a)) ∧ Below w.heap.size w w' := by
  have hb := ga_below a.W a.H a.A a.l.length a.c a.px a.py w
  have hg := ga_g2 a.W a.H a.A a.l.length a.c a.px a.py w
  have hsz : (ga a.W a.H a.A a.l.length a.c a.px a.py w).heap.size = w.heap.size + 2 := by simp
  have har : Calls Try.prog 33 #[gv a.W a.H a.A a.l.length a.c, pv a.px a.py, .int .i64 a.r] (ga a.W a.H a.A a.l.length a.c a.px a.py w) fun e w' => (∃ v, e = .returned v ∧ OwnT w' (w.heap.size + 2) v (aroundOf a)) ∧ Below (w.heap.size + 2) (ga a.W a.H a.A a.l.length a.c a.px a.py w) w' := by
    refine (around_any a _ h1 h2 h3 (rb_later hl hb)).mono fun e w' h => ?_
    obtain ⟨⟨v, he, hr, _⟩, hbl⟩ := h
    rw [hsz] at hr hbl
    exact ⟨⟨v, he, hr⟩, hbl⟩
  have hdel : ∀ (w1 : World) (v : Value), Below (w.heap.size + 2) (ga a.W a.H a.A a.l.length a.c a.px a.py w) w1 → OwnT w1 (w.heap.size + 2) v (aroundOf a) →
      Calls Try.prog 32 #[v, .func (.func 34) #[] #[pt w.heap.size, pt (w.heap.size + 1)]] w1 fun e w' => (∃ v', e = .returned v' ∧ OwnT w' w.heap.size v' (seenL a)) ∧ Below w.heap.size w w' := by
    intro w1 v hb1 hrow
    have hB : w.heap.size + 2 ≤ w1.heap.size := by have := hb1.size; omega
    have hw1 : Below w.heap.size w w1 := hb.trans (hb1.mono (by omega))
    refine (del_any (s := w.heap.size) (t := w.heap.size + 1) (d := fun q => !seesB a.W a.H a.l a.px a.py q.1.1 q.1.2) (by have := around_few a; omega) hrow hB ?_).mono fun e w' h => ?_
    · intro V hV hBV q _
      exact closure_any ((hg.below hb1 (by omega)).below hV (by omega)) (rb_later hl (hw1.trans (hV.mono (by omega))))
    · obtain ⟨⟨v', he, hr⟩, hbl⟩ := h
      refine ⟨⟨v', he, ?_⟩, hw1.trans (hbl.mono (by omega))⟩
      have e2 : (aroundOf a).filter (fun q => !!seesB a.W a.H a.l a.px a.py q.1.1 q.1.2) = seenL a := by unfold seenL; congr 1; funext q; rw [Bool.not_not]
      rw [e2] at hr
      exact row_base hr (by omega)
  have HAR := Lib.hid har; have HDEL := Lib.hid hdel
  clear har hdel hsz hb hg
  go_enter Try.func16, Try.ntmps16
  go_wp2_with (first
    | ((with_reducible refine HAR.out.mono ?_); rintro e w1 ⟨⟨v, rfl, hr⟩, hB1⟩; have HD1 := Lib.hid (HDEL.out w1 v hB1 hr); clear hB1 hr)
    | ((with_reducible refine HD1.out.mono ?_); rintro e w2 ⟨⟨v', rfl, hr⟩, hB2⟩))
  go_ret
  exact ⟨⟨v', rfl, hr⟩, hB2⟩
end Go.Proofs.Ytiggpmennomplaa.Con
