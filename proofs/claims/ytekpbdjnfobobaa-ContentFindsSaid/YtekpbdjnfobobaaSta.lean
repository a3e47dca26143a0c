/-
  Plain facts of content that is right; boxes that hold one ability or one foe.
-/
import Derived.Test.YtekpbdjnfobobaaSma
import Derived.Test.YtekpbdjnfobobaaFew
import Derived.Test.YtekpbdjnfobobaaRfi
import Derived.Test.YtekpbdjnfobobaaRsm
namespace Go.Proofs.Ytekpbdjnfobobaa.Con
open Go.RowKit Go.Maps

theorem flaw_none {α : Type} {ok : α → Prop} {id : α → Int} : ∀ {l : List α} {last : Int} {i : Nat}, Flaw ok id l last i none → i ≤ 64 → (∀ a ∈ l, ok a ∧ last < id a) ∧ l.Pairwise (fun a b => id a < id b) ∧ i + l.length ≤ 64
  | [], _, i, _, hi => ⟨fun a ha => (by cases ha), .nil, by simpa using hi⟩
  | x :: s, last, i, h, hi => by
    rcases h with ⟨_, e⟩ | ⟨hn, h⟩
    · cases e
    · simp only [not_or, Classical.not_not] at hn
      obtain ⟨h1, h2, h3⟩ := hn
      obtain ⟨k1, k2, k3⟩ := flaw_none h (by omega)
      refine ⟨fun a ha => ?_, .cons (fun a ha => (k1 a ha).2) k2, by simp; omega⟩
      rcases List.mem_cons.1 ha with rfl | ha
      · exact ⟨h3, by omega⟩
      · have := (k1 a ha); exact ⟨this.1, by omega⟩
theorem flaw_take {α : Type} {ok : α → Prop} {id : α → Int} : ∀ {l : List α} {last : Int} {i : Nat} (n : Nat), Flaw ok id l last i none → Flaw ok id (l.take n) last i none
  | [], _, _, n, h => by simpa using h
  | x :: s, last, i, 0, h => rfl
  | x :: s, last, i, n + 1, h => by
    rcases h with ⟨_, e⟩ | ⟨hn, h⟩
    · cases e
    · exact .inr ⟨hn, flaw_take n h⟩
theorem fd_self {α : Type} {id : α → Int} (z : α) {l : List α} (h : l.Pairwise (fun a b => id a < id b)) {k : Nat} {a : α} (hk : l[k]? = some a) : FD id z l (id a) a true := by
  refine .inl ⟨rfl, k, hk, rfl, fun j y hj hy e => ?_⟩
  obtain ⟨h1, e1⟩ := List.getElem?_eq_some_iff.1 hk
  obtain ⟨h2, e2⟩ := List.getElem?_eq_some_iff.1 hy
  have := List.pairwise_iff_getElem.1 h j k h2 h1 hj
  rw [e1, e2] at this
  omega
theorem fd_no {α : Type} {id : α → Int} (z : α) {l : List α} (h : ∀ a ∈ l, 0 < id a) : FD id z l 0 z false := .inr ⟨rfl, rfl, fun y hy e => by have := h y hy; omega⟩
/-- What content that is right says, in one. -/
structure Nice (c : Cn) : Prop where
  abs : ∀ a ∈ c.ab, AbOk c a
  abp : c.ab.Pairwise (fun a b => a.id < b.id)
  abn : (c.ab.length : Int) ≤ 64
  aun : (c.au.length : Int) ≤ 64
  fos : ∀ f ∈ c.fo, FoOk c f ∧ 0 < f.id
  fop : c.fo.Pairwise (fun a b => a.id < b.id)
  fon : (c.fo.length : Int) ≤ 64
  door : inB c.W c.H c.wl.length c.dx c.dy = true
  lair : wallB c.W c.H c.wl c.lx c.ly = false
theorem RightC.nice {c : Cn} (h : RightC c) : Nice c := by
  obtain ⟨h1, h2, h3, h4, h5, h6⟩ := h
  obtain ⟨a1, a2, a3⟩ := flaw_none h1 (by omega)
  obtain ⟨b1, b2, b3⟩ := flaw_none h2 (by omega)
  obtain ⟨c1, c2, c3⟩ := flaw_none h3 (by omega)
  refine ⟨fun a ha => (a1 a ha).1, a2, by omega, by omega, c1, c2, by omega, ?_, h6⟩
  unfold wallB at h5
  cases hd : inB c.W c.H c.wl.length c.dx c.dy with
  | true => rfl
  | false => rw [hd] at h5; simp at h5
/-- Content without its foes from n on. -/
abbrev Cn.cut (c : Cn) (n : Nat) : Cn := { c with fo := c.fo.take n }
theorem RightC.cut {c : Cn} (h : RightC c) (n : Nat) : RightC (c.cut n) := ⟨h.1, h.2.1, flaw_take n h.2.2.1, h.2.2.2⟩
theorem mem_take {α : Type} {l : List α} {n : Nat} {a : α} (h : a ∈ l.take n) : a ∈ l := (List.take_sublist n l).subset h
theorem RC.cut {w : World} {B : Nat} {c : Cn} (h : RC w B c) (n : Nat) : RC w B (c.cut n) :=
  ⟨h.abs, h.aus, h.fos.take n, h.wls, h.effs, fun f hf => h.scrs f (mem_take hf), fun f hf => h.hors f (mem_take hf)⟩
theorem Sm.cut {c : Cn} (h : Sm c) (n : Nat) : Sm (c.cut n) :=
  ⟨h.abs, h.aus, by have := h.fos; simp; omega, h.wls, h.effs, fun f hf => h.scrs f (mem_take hf), fun f hf => h.hors f (mem_take hf)⟩
theorem cut_all (c : Cn) : c.cut c.fo.length = c := by cases c; simp [Cn.cut]

theorem eight0 (V : World) (p : Nat) (v0 v1 v2 v3 v4 v5 v6 v7 : Value) : (((((((V.setCell ⟨p, 0, none⟩ v0).setCell ⟨p, 1, none⟩ v1).setCell ⟨p, 2, none⟩ v2).setCell ⟨p, 3, none⟩ v3).setCell ⟨p, 4, none⟩ v4).setCell ⟨p, 5, none⟩ v5).setCell ⟨p, 6, none⟩ v6).setCell ⟨p, 7, none⟩ v7 = V.setCells p 0 [v0, v1, v2, v3, v4, v5, v6, v7] := rfl
theorem seven0 (V : World) (p : Nat) (v0 v1 v2 v3 v4 v5 v6 : Value) : ((((((V.setCell ⟨p, 0, none⟩ v0).setCell ⟨p, 1, none⟩ v1).setCell ⟨p, 2, none⟩ v2).setCell ⟨p, 3, none⟩ v3).setCell ⟨p, 4, none⟩ v4).setCell ⟨p, 5, none⟩ v5).setCell ⟨p, 6, none⟩ v6 = V.setCells p 0 [v0, v1, v2, v3, v4, v5, v6] := rfl
theorem put8 {w : World} {P : Nat} {u0 u1 u2 u3 u4 u5 u6 u7 : Value} {t : TypeId} (h : w.heap[P]? = some (.cells #[u0, u1, u2, u3, u4, u5, u6, u7] t (0, 0))) (v0 v1 v2 v3 v4 v5 v6 v7 : Value) :
    (w.setCells P 0 [v0, v1, v2, v3, v4, v5, v6, v7]).heap[P]? = some (.cells #[v0, v1, v2, v3, v4, v5, v6, v7] t (0, 0)) := by
  have h0 := heap_setCell_same _ P 0 _ t v0 h
  have h1 := heap_setCell_same _ P 1 _ t v1 h0
  have h2 := heap_setCell_same _ P 2 _ t v2 h1
  have h3 := heap_setCell_same _ P 3 _ t v3 h2
  have h4 := heap_setCell_same _ P 4 _ t v4 h3
  have h5 := heap_setCell_same _ P 5 _ t v5 h4
  have h6 := heap_setCell_same _ P 6 _ t v6 h5
  have h7 := heap_setCell_same _ P 7 _ t v7 h6
  simpa [World.setCells] using h7
theorem oAb_cells {w : World} {P : Nat} {a : Ab} (h : w.heap[P]? = some (oAb a)) : w.cell? ⟨P, 0, none⟩ = some (.int .i64 a.id) ∧ w.cell? ⟨P, 1, none⟩ = some (.int .i64 a.cast) ∧ w.cell? ⟨P, 2, none⟩ = some (.int .i64 a.cool) ∧ w.cell? ⟨P, 3, none⟩ = some (.int .i64 a.charges) ∧ w.cell? ⟨P, 4, none⟩ = some (.int .i64 a.range) ∧ w.cell? ⟨P, 5, none⟩ = some (.int .i64 a.cost) ∧ w.cell? ⟨P, 6, none⟩ = some (.bool a.sight) ∧ w.cell? ⟨P, 7, none⟩ = some (.slice a.ea a.eff.length a.ec) :=
  ⟨cell_of h 0, cell_of h 1, cell_of h 2, cell_of h 3, cell_of h 4, cell_of h 5, cell_of h 6, cell_of h 7⟩
theorem oFo_cells {w : World} {P : Nat} {a : Fo} (h : w.heap[P]? = some (oFo a)) : w.cell? ⟨P, 0, none⟩ = some (.int .i64 a.id) ∧ w.cell? ⟨P, 1, none⟩ = some (.int .i64 a.health) ∧ w.cell? ⟨P, 2, none⟩ = some (.int .i64 a.hit) ∧ w.cell? ⟨P, 3, none⟩ = some (.int .i64 a.every) ∧ w.cell? ⟨P, 4, none⟩ = some (.int .i64 a.reach) ∧ w.cell? ⟨P, 5, none⟩ = some (.slice a.sa a.script.length a.sc) ∧ w.cell? ⟨P, 6, none⟩ = some (.slice a.ha a.hoard.length a.hc) ∧ w.cell? ⟨P, 7, none⟩ = some (.int .i64 a.drops) :=
  ⟨cell_of h 0, cell_of h 1, cell_of h 2, cell_of h 3, cell_of h 4, cell_of h 5, cell_of h 6, cell_of h 7⟩
/-- A row of the call's own reads on behind a store into another box. -/
theorem rw_new {α : Type} {E : El α} {w : World} {A : Option Addr} {l : List α} {B P : Nat} (h : RW E w B A l) (hB : B ≤ P) (hP : P < w.heap.size) (o : Nat) (vs : List Value) : RW E (w.setCells P o vs) (w.setCells P o vs).heap.size A l :=
  (h.below (below_setCells P hB vs o w (Below.refl B w)) (Nat.le_refl _)).more (by rw [size_setCells]; omega)
theorem rw_old {α : Type} {E : El α} {w : World} {A : Option Addr} {l : List α} {N P : Nat} (h : PW E w N A l) (hP : P < N) (o : Nat) (vs : List Value) : RW E (w.setCells P o vs) (w.setCells P o vs).heap.size A l :=
  (h.setC hP o vs).rw'
end Go.Proofs.Ytekpbdjnfobobaa.Con
