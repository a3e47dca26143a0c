/-
  Contracts of all, slices.ContainsFunc, slices.IndexFunc at rows of effects, lines and prizes, and of the closures over content that they call.
-/
import Derived.Test.YtijobbdgiaiocaaRgt
namespace Go.Proofs.Ytijobbdgiaiocaa.Con
open Go.RowKit Go.Maps

theorem At.ten {w : World} {b : Nat} {c : Cn} (h : At w b (cnc c)) : w.cell? ⟨b, 0, none⟩ = some (.slice c.aA c.ab.length c.aC) ∧ w.cell? ⟨b, 1, none⟩ = some (.slice c.uA c.au.length c.uC) ∧ w.cell? ⟨b, 2, none⟩ = some (.slice c.fA c.fo.length c.fC) ∧ w.cell? ⟨b, 3, none⟩ = some (.int .i64 c.W) ∧ w.cell? ⟨b, 4, none⟩ = some (.int .i64 c.H) ∧ w.cell? ⟨b, 5, none⟩ = some (.slice c.gA c.wl.length c.gC) ∧ w.cell? ⟨b, 6, none⟩ = some (.int .i64 c.dx) ∧ w.cell? ⟨b, 7, none⟩ = some (.int .i64 c.dy) ∧ w.cell? ⟨b, 8, none⟩ = some (.int .i64 c.lx) ∧ w.cell? ⟨b, 9, none⟩ = some (.int .i64 c.ly) :=
  ⟨h 0 _ rfl, h 1 _ rfl, h 2 _ rfl, h 3 _ rfl, h 4 _ rfl, h 5 _ rfl, h 6 _ rfl, h 7 _ rfl, h 8 _ rfl, h 9 _ rfl⟩
theorem not_iff' {x : Bool} {P : Prop} (h : x = true ↔ P) : (!x) = true ↔ ¬ P := by cases x <;> simp_all
theorem mem_next {α : Type} {l : List α} {P : α → Prop} {k : Nat} {b : α} (hk : l[k]? = some b) (hb : P b) (hn : ∀ p ∈ l.take k, P p) : ∀ p ∈ l.take (k + 1), P p := by
  intro p hp
  rw [List.take_add_one, hk, List.mem_append] at hp
  rcases hp with hp | hp
  · exact hn p hp
  · simp at hp; subst hp; exact hb


theorem cl_ef {V : World} {s : Nat} (t : Nat) (hs : V.cell? ⟨s, 0, none⟩ = some (.func (.func 80) #[] #[pt t])) (hsl : s < V.heap.size) (q : Ef) (x : Bool) (HC : ∀ V', Below V.heap.size V V' → Calls Try.prog 80 #[efv q, pt t] V' fun e w' => e = .returned (.bool x) ∧ Below V'.heap.size V' w') :
    Calls Try.prog 92 #[efv q, pt s] V fun e w' => e = .returned (.bool (!x)) ∧ Below V.heap.size V w' := by
  have HH := Lib.hid HC; clear HC
  go_enter Try.func92, Try.ntmps92
  go_wp2_with (first | ((with_reducible refine (HH.out _ (by go_grown)).mono ?_); rintro e w1 ⟨rfl, hB1⟩; have hV1 := bstep hB1 (V := V) (by go_grown)))
  go_ret
  exact ⟨rfl, hV1⟩
set_option maxRecDepth 100000 in
set_option maxHeartbeats 4000000 in
theorem idx_ef {w : World} {B s : Nat} {A : Option Addr} {l : List Ef} {n c : Nat} (hn : l.length = n) (hl : (n : Int) ≤ 1000000) (hr : RW ef w B A l) (hB : B ≤ w.heap.size) (ok : Ef → Prop)
    (hd : ∀ V, Below w.heap.size w V → ∀ q ∈ l, ∀ x : Bool, (x = true ↔ ok q) → Calls Try.prog 92 #[efv q, pt s] V fun e w' => e = .returned (.bool (!x)) ∧ Below V.heap.size V w') (y : Bool) (hy : y = true ↔ ∃ q ∈ l, ¬ ok q) :
    Calls Try.prog 104 #[.slice A n c, .func (.func 92) #[] #[pt s]] w fun e w' => (∃ i : Int, e = .returned (.int .i64 i) ∧ Hid (decide (0 ≤ i) = y)) ∧ Below w.heap.size w w' := by
  have HD := Lib.hid hd; have HRT := Lib.hid hr; have HK := Lib.hid hn; have HY := Lib.hid hy
  clear hd hr hn hy
  go_enter Try.func104, Try.ntmps104
  go_wp2
  go_loopg [8] n (fun m s8 wr => ∃ (k : Nat), k ≤ n ∧ m = n - k ∧ s8 = .int .i64 (k : Int) ∧ Hid (∀ p ∈ l.take k, ok p) ∧ Hid (Below w.heap.size w wr))
  case atStart => exact ⟨0, by omega, rfl, rfl, Lib.hid (by simp), Lib.hid (Below.refl _ _)⟩
  case round =>
    obtain ⟨k, hk, rfl, rfl, HF, HW⟩ := hrel
    by_cases hkl : k < n
    · have hkl' : (k : Int) < n := by omega
      obtain ⟨q, hq⟩ : ∃ q, l[k]? = some q := ⟨_, List.getElem?_eq_getElem (by rw [HK.out]; exact hkl)⟩
      obtain ⟨p, off, hA, hpl, c0, c1, c2⟩ := rowEf HRT.out hq HW.out hB
      subst hA
      obtain ⟨x, hx⟩ := bex (ok q)
      have HDQ := Lib.hid (HD.out wr HW.out q (List.mem_of_getElem? hq) x hx)
      have HQ := Lib.hid hq; have HX := Lib.hid hx
      clear hq hx
      cases x with
      | false =>
        have HBad : Hid (¬ ok q) := Lib.hid (fun h => by have := HX.out.2 h; cases this)
        go_wp2_with (first | ((with_reducible refine HDQ.out.mono ?_); rintro e w1 ⟨rfl, hB1⟩))
        go_ret
        have hyt : y = true := HY.out.2 ⟨q, List.mem_of_getElem? HQ.out, HBad.out⟩
        exact ⟨⟨_, rfl, Lib.hid (by rw [hyt]; simp)⟩, HW.out.trans (hB1.mono HW.out.size)⟩
      | true =>
        have HF2 := Lib.hid (mem_next HQ.out (HX.out.1 rfl) HF.out)
        go_wp2_with (first | ((with_reducible refine HDQ.out.mono ?_); rintro e w1 ⟨rfl, hB1⟩))
        go_roundg (n - (k + 1))
        case rel => exact ⟨k + 1, by omega, rfl, by go_num, HF2, Lib.hid (HW.out.trans (hB1.mono HW.out.size))⟩
        case measure => omega
    · have hkk : k = n := by omega
      have hkl' : decide ((k : Int) < n) = false := by simp; omega
      have HE : Hid (y = false) := Lib.hid (by
        cases hyy : y with
        | false => rfl
        | true =>
          obtain ⟨q, hq, hbad⟩ := HY.out.1 hyy
          exact absurd (HF.out q (by rw [hkk, ← HK.out, List.take_length]; exact hq)) hbad)
      clear hkk
      go_wp2
      go_ret
      exact ⟨⟨_, rfl, Lib.hid (by rw [HE.out]; rfl)⟩, HW.out⟩
theorem con_ef {w : World} {B s : Nat} {A : Option Addr} {l : List Ef} {n c : Nat} (hn : l.length = n) (hl : (n : Int) ≤ 1000000) (hr : RW ef w B A l) (hB : B ≤ w.heap.size) (ok : Ef → Prop)
    (hd : ∀ V, Below w.heap.size w V → ∀ q ∈ l, ∀ x : Bool, (x = true ↔ ok q) → Calls Try.prog 92 #[efv q, pt s] V fun e w' => e = .returned (.bool (!x)) ∧ Below V.heap.size V w') (y : Bool) (hy : y = true ↔ ∃ q ∈ l, ¬ ok q) :
    Calls Try.prog 91 #[.slice A n c, .func (.func 92) #[] #[pt s]] w fun e w' => e = .returned (.bool y) ∧ Below w.heap.size w w' := by
  have HI := Lib.hid (idx_ef (c := c) hn hl hr hB ok hd y hy)
  clear hd hy hr hn
  go_enter Try.func91, Try.ntmps91
  go_wp2_with (first | ((with_reducible refine HI.out.mono ?_); rintro e w1 ⟨⟨i, rfl, hi⟩, hB1⟩))
  go_ret
  exact ⟨ret_bool hi.out, hB1⟩
theorem all_ef {w : World} {B : Nat} (t : Nat) {A : Option Addr} {l : List Ef} {n c : Nat} (hn : l.length = n) (hl : (n : Int) ≤ 1000000) (hr : RW ef w B A l) (hB : B ≤ w.heap.size) (ok : Ef → Prop)
    (hd : ∀ V, Below w.heap.size w V → ∀ q ∈ l, ∀ x : Bool, (x = true ↔ ok q) → Calls Try.prog 80 #[efv q, pt t] V fun e w' => e = .returned (.bool x) ∧ Below V.heap.size V w') (x : Bool) (hx : x = true ↔ ∀ q ∈ l, ok q) :
    Calls Try.prog 79 #[.slice A n c, .func (.func 80) #[] #[pt t]] w fun e w' => e = .returned (.bool x) ∧ Below w.heap.size w w' := by
  have hb : Below w.heap.size w (w.alloc (.cells #[.func (.func 80) #[] #[pt t]] 114)) := by go_grown
  have hnew := heap_alloc_new w (.cells #[.func (.func 80) #[] #[pt t]] 114)
  have hlt : w.heap.size < (w.alloc (.cells #[.func (.func 80) #[] #[pt t]] 114)).heap.size := by simp
  have hy : (!x) = true ↔ ∃ q ∈ l, ¬ ok q := by
    rw [not_iff' hx]
    constructor
    · intro h; apply Classical.byContradiction; intro h2; exact h (fun q hq => Classical.byContradiction fun h3 => h2 ⟨q, hq, h3⟩)
    · rintro ⟨q, hq, h⟩ h2; exact h (h2 q hq)
  have HC := Lib.hid (con_ef (w := w.alloc (.cells #[.func (.func 80) #[] #[pt t]] 114)) (s := w.heap.size) (c := c) hn hl (hr.below hb hB) (Nat.le_trans hB hb.size) ok (fun V hV q hq x' hx' => by
    have hcell : V.cell? ⟨w.heap.size, 0, none⟩ = some (.func (.func 80) #[] #[pt t]) := blk_cell hnew hV hlt 0
    exact cl_ef t hcell (Nat.lt_of_lt_of_le hlt hV.size) q x' (fun V' hV' => hd V' ((hb.trans (hV.mono hb.size)).trans (hV'.mono (Nat.le_trans hb.size hV.size))) q hq x' hx')) (!x) hy)
  clear hd hx hy hr hn hnew hlt
  go_enter Try.func79, Try.ntmps79
  go_wp2_with (first | ((with_reducible refine HC.out.mono ?_); rintro e w1 ⟨rfl, hB1⟩))
  go_ret
  exact ⟨by simp, hb.trans (hB1.mono hb.size)⟩

theorem cl_ln {V : World} {s : Nat} (t : Nat) (hs : V.cell? ⟨s, 0, none⟩ = some (.func (.func 84) #[] #[pt t])) (hsl : s < V.heap.size) (q : Ln) (x : Bool) (HC : ∀ V', Below V.heap.size V V' → Calls Try.prog 84 #[lnv q, pt t] V' fun e w' => e = .returned (.bool x) ∧ Below V'.heap.size V' w') :
    Calls Try.prog 97 #[lnv q, pt s] V fun e w' => e = .returned (.bool (!x)) ∧ Below V.heap.size V w' := by
  have HH := Lib.hid HC; clear HC
  go_enter Try.func97, Try.ntmps97
  go_wp2_with (first | ((with_reducible refine (HH.out _ (by go_grown)).mono ?_); rintro e w1 ⟨rfl, hB1⟩; have hV1 := bstep hB1 (V := V) (by go_grown)))
  go_ret
  exact ⟨rfl, hV1⟩
set_option maxRecDepth 100000 in
set_option maxHeartbeats 4000000 in
theorem idx_ln {w : World} {B s : Nat} {A : Option Addr} {l : List Ln} {n c : Nat} (hn : l.length = n) (hl : (n : Int) ≤ 1000000) (hr : RW ln w B A l) (hB : B ≤ w.heap.size) (ok : Ln → Prop)
    (hd : ∀ V, Below w.heap.size w V → ∀ q ∈ l, ∀ x : Bool, (x = true ↔ ok q) → Calls Try.prog 97 #[lnv q, pt s] V fun e w' => e = .returned (.bool (!x)) ∧ Below V.heap.size V w') (y : Bool) (hy : y = true ↔ ∃ q ∈ l, ¬ ok q) :
    Calls Try.prog 107 #[.slice A n c, .func (.func 97) #[] #[pt s]] w fun e w' => (∃ i : Int, e = .returned (.int .i64 i) ∧ Hid (decide (0 ≤ i) = y)) ∧ Below w.heap.size w w' := by
  have HD := Lib.hid hd; have HRT := Lib.hid hr; have HK := Lib.hid hn; have HY := Lib.hid hy
  clear hd hr hn hy
  go_enter Try.func107, Try.ntmps107
  go_wp2
  go_loopg [8] n (fun m s8 wr => ∃ (k : Nat), k ≤ n ∧ m = n - k ∧ s8 = .int .i64 (k : Int) ∧ Hid (∀ p ∈ l.take k, ok p) ∧ Hid (Below w.heap.size w wr))
  case atStart => exact ⟨0, by omega, rfl, rfl, Lib.hid (by simp), Lib.hid (Below.refl _ _)⟩
  case round =>
    obtain ⟨k, hk, rfl, rfl, HF, HW⟩ := hrel
    by_cases hkl : k < n
    · have hkl' : (k : Int) < n := by omega
      obtain ⟨q, hq⟩ : ∃ q, l[k]? = some q := ⟨_, List.getElem?_eq_getElem (by rw [HK.out]; exact hkl)⟩
      obtain ⟨p, off, hA, hpl, c0, c1, c2, c3, c4⟩ := rowLn HRT.out hq HW.out hB
      subst hA
      obtain ⟨x, hx⟩ := bex (ok q)
      have HDQ := Lib.hid (HD.out wr HW.out q (List.mem_of_getElem? hq) x hx)
      have HQ := Lib.hid hq; have HX := Lib.hid hx
      clear hq hx
      cases x with
      | false =>
        have HBad : Hid (¬ ok q) := Lib.hid (fun h => by have := HX.out.2 h; cases this)
        go_wp2_with (first | ((with_reducible refine HDQ.out.mono ?_); rintro e w1 ⟨rfl, hB1⟩))
        go_ret
        have hyt : y = true := HY.out.2 ⟨q, List.mem_of_getElem? HQ.out, HBad.out⟩
        exact ⟨⟨_, rfl, Lib.hid (by rw [hyt]; simp)⟩, HW.out.trans (hB1.mono HW.out.size)⟩
      | true =>
        have HF2 := Lib.hid (mem_next HQ.out (HX.out.1 rfl) HF.out)
        go_wp2_with (first | ((with_reducible refine HDQ.out.mono ?_); rintro e w1 ⟨rfl, hB1⟩))
        go_roundg (n - (k + 1))
        case rel => exact ⟨k + 1, by omega, rfl, by go_num, HF2, Lib.hid (HW.out.trans (hB1.mono HW.out.size))⟩
        case measure => omega
    · have hkk : k = n := by omega
      have hkl' : decide ((k : Int) < n) = false := by simp; omega
      have HE : Hid (y = false) := Lib.hid (by
        cases hyy : y with
        | false => rfl
        | true =>
          obtain ⟨q, hq, hbad⟩ := HY.out.1 hyy
          exact absurd (HF.out q (by rw [hkk, ← HK.out, List.take_length]; exact hq)) hbad)
      clear hkk
      go_wp2
      go_ret
      exact ⟨⟨_, rfl, Lib.hid (by rw [HE.out]; rfl)⟩, HW.out⟩
theorem con_ln {w : World} {B s : Nat} {A : Option Addr} {l : List Ln} {n c : Nat} (hn : l.length = n) (hl : (n : Int) ≤ 1000000) (hr : RW ln w B A l) (hB : B ≤ w.heap.size) (ok : Ln → Prop)
    (hd : ∀ V, Below w.heap.size w V → ∀ q ∈ l, ∀ x : Bool, (x = true ↔ ok q) → Calls Try.prog 97 #[lnv q, pt s] V fun e w' => e = .returned (.bool (!x)) ∧ Below V.heap.size V w') (y : Bool) (hy : y = true ↔ ∃ q ∈ l, ¬ ok q) :
    Calls Try.prog 96 #[.slice A n c, .func (.func 97) #[] #[pt s]] w fun e w' => e = .returned (.bool y) ∧ Below w.heap.size w w' := by
  have HI := Lib.hid (idx_ln (c := c) hn hl hr hB ok hd y hy)
  clear hd hy hr hn
  go_enter Try.func96, Try.ntmps96
  go_wp2_with (first | ((with_reducible refine HI.out.mono ?_); rintro e w1 ⟨⟨i, rfl, hi⟩, hB1⟩))
  go_ret
  exact ⟨ret_bool hi.out, hB1⟩
theorem all_ln {w : World} {B : Nat} (t : Nat) {A : Option Addr} {l : List Ln} {n c : Nat} (hn : l.length = n) (hl : (n : Int) ≤ 1000000) (hr : RW ln w B A l) (hB : B ≤ w.heap.size) (ok : Ln → Prop)
    (hd : ∀ V, Below w.heap.size w V → ∀ q ∈ l, ∀ x : Bool, (x = true ↔ ok q) → Calls Try.prog 84 #[lnv q, pt t] V fun e w' => e = .returned (.bool x) ∧ Below V.heap.size V w') (x : Bool) (hx : x = true ↔ ∀ q ∈ l, ok q) :
    Calls Try.prog 83 #[.slice A n c, .func (.func 84) #[] #[pt t]] w fun e w' => e = .returned (.bool x) ∧ Below w.heap.size w w' := by
  have hb : Below w.heap.size w (w.alloc (.cells #[.func (.func 84) #[] #[pt t]] 119)) := by go_grown
  have hnew := heap_alloc_new w (.cells #[.func (.func 84) #[] #[pt t]] 119)
  have hlt : w.heap.size < (w.alloc (.cells #[.func (.func 84) #[] #[pt t]] 119)).heap.size := by simp
  have hy : (!x) = true ↔ ∃ q ∈ l, ¬ ok q := by
    rw [not_iff' hx]
    constructor
    · intro h; apply Classical.byContradiction; intro h2; exact h (fun q hq => Classical.byContradiction fun h3 => h2 ⟨q, hq, h3⟩)
    · rintro ⟨q, hq, h⟩ h2; exact h (h2 q hq)
  have HC := Lib.hid (con_ln (w := w.alloc (.cells #[.func (.func 84) #[] #[pt t]] 119)) (s := w.heap.size) (c := c) hn hl (hr.below hb hB) (Nat.le_trans hB hb.size) ok (fun V hV q hq x' hx' => by
    have hcell : V.cell? ⟨w.heap.size, 0, none⟩ = some (.func (.func 84) #[] #[pt t]) := blk_cell hnew hV hlt 0
    exact cl_ln t hcell (Nat.lt_of_lt_of_le hlt hV.size) q x' (fun V' hV' => hd V' ((hb.trans (hV.mono hb.size)).trans (hV'.mono (Nat.le_trans hb.size hV.size))) q hq x' hx')) (!x) hy)
  clear hd hx hy hr hn hnew hlt
  go_enter Try.func83, Try.ntmps83
  go_wp2_with (first | ((with_reducible refine HC.out.mono ?_); rintro e w1 ⟨rfl, hB1⟩))
  go_ret
  exact ⟨by simp, hb.trans (hB1.mono hb.size)⟩

theorem cl_pz {V : World} {s : Nat} (hs : V.cell? ⟨s, 0, none⟩ = some (.func (.func 95) #[] #[])) (hsl : s < V.heap.size) (q : Pz) (x : Bool) (HC : ∀ V', Below V.heap.size V V' → Calls Try.prog 95 #[pzv q] V' fun e w' => e = .returned (.bool x) ∧ Below V'.heap.size V' w') :
    Calls Try.prog 106 #[pzv q, pt s] V fun e w' => e = .returned (.bool (!x)) ∧ Below V.heap.size V w' := by
  have HH := Lib.hid HC; clear HC
  go_enter Try.func106, Try.ntmps106
  go_wp2_with (first | ((with_reducible refine (HH.out _ (by go_grown)).mono ?_); rintro e w1 ⟨rfl, hB1⟩; have hV1 := bstep hB1 (V := V) (by go_grown)))
  go_ret
  exact ⟨rfl, hV1⟩
set_option maxRecDepth 100000 in
set_option maxHeartbeats 4000000 in
theorem idx_pz {w : World} {B s : Nat} {A : Option Addr} {l : List Pz} {n c : Nat} (hn : l.length = n) (hl : (n : Int) ≤ 1000000) (hr : RW pz w B A l) (hB : B ≤ w.heap.size) (ok : Pz → Prop)
    (hd : ∀ V, Below w.heap.size w V → ∀ q ∈ l, ∀ x : Bool, (x = true ↔ ok q) → Calls Try.prog 106 #[pzv q, pt s] V fun e w' => e = .returned (.bool (!x)) ∧ Below V.heap.size V w') (y : Bool) (hy : y = true ↔ ∃ q ∈ l, ¬ ok q) :
    Calls Try.prog 110 #[.slice A n c, .func (.func 106) #[] #[pt s]] w fun e w' => (∃ i : Int, e = .returned (.int .i64 i) ∧ Hid (decide (0 ≤ i) = y)) ∧ Below w.heap.size w w' := by
  have HD := Lib.hid hd; have HRT := Lib.hid hr; have HK := Lib.hid hn; have HY := Lib.hid hy
  clear hd hr hn hy
  go_enter Try.func110, Try.ntmps110
  go_wp2
  go_loopg [8] n (fun m s8 wr => ∃ (k : Nat), k ≤ n ∧ m = n - k ∧ s8 = .int .i64 (k : Int) ∧ Hid (∀ p ∈ l.take k, ok p) ∧ Hid (Below w.heap.size w wr))
  case atStart => exact ⟨0, by omega, rfl, rfl, Lib.hid (by simp), Lib.hid (Below.refl _ _)⟩
  case round =>
    obtain ⟨k, hk, rfl, rfl, HF, HW⟩ := hrel
    by_cases hkl : k < n
    · have hkl' : (k : Int) < n := by omega
      obtain ⟨q, hq⟩ : ∃ q, l[k]? = some q := ⟨_, List.getElem?_eq_getElem (by rw [HK.out]; exact hkl)⟩
      obtain ⟨p, off, hA, hpl, c0, c1⟩ := rowPz HRT.out hq HW.out hB
      subst hA
      obtain ⟨x, hx⟩ := bex (ok q)
      have HDQ := Lib.hid (HD.out wr HW.out q (List.mem_of_getElem? hq) x hx)
      have HQ := Lib.hid hq; have HX := Lib.hid hx
      clear hq hx
      cases x with
      | false =>
        have HBad : Hid (¬ ok q) := Lib.hid (fun h => by have := HX.out.2 h; cases this)
        go_wp2_with (first | ((with_reducible refine HDQ.out.mono ?_); rintro e w1 ⟨rfl, hB1⟩))
        go_ret
        have hyt : y = true := HY.out.2 ⟨q, List.mem_of_getElem? HQ.out, HBad.out⟩
        exact ⟨⟨_, rfl, Lib.hid (by rw [hyt]; simp)⟩, HW.out.trans (hB1.mono HW.out.size)⟩
      | true =>
        have HF2 := Lib.hid (mem_next HQ.out (HX.out.1 rfl) HF.out)
        go_wp2_with (first | ((with_reducible refine HDQ.out.mono ?_); rintro e w1 ⟨rfl, hB1⟩))
        go_roundg (n - (k + 1))
        case rel => exact ⟨k + 1, by omega, rfl, by go_num, HF2, Lib.hid (HW.out.trans (hB1.mono HW.out.size))⟩
        case measure => omega
    · have hkk : k = n := by omega
      have hkl' : decide ((k : Int) < n) = false := by simp; omega
      have HE : Hid (y = false) := Lib.hid (by
        cases hyy : y with
        | false => rfl
        | true =>
          obtain ⟨q, hq, hbad⟩ := HY.out.1 hyy
          exact absurd (HF.out q (by rw [hkk, ← HK.out, List.take_length]; exact hq)) hbad)
      clear hkk
      go_wp2
      go_ret
      exact ⟨⟨_, rfl, Lib.hid (by rw [HE.out]; rfl)⟩, HW.out⟩
theorem con_pz {w : World} {B s : Nat} {A : Option Addr} {l : List Pz} {n c : Nat} (hn : l.length = n) (hl : (n : Int) ≤ 1000000) (hr : RW pz w B A l) (hB : B ≤ w.heap.size) (ok : Pz → Prop)
    (hd : ∀ V, Below w.heap.size w V → ∀ q ∈ l, ∀ x : Bool, (x = true ↔ ok q) → Calls Try.prog 106 #[pzv q, pt s] V fun e w' => e = .returned (.bool (!x)) ∧ Below V.heap.size V w') (y : Bool) (hy : y = true ↔ ∃ q ∈ l, ¬ ok q) :
    Calls Try.prog 105 #[.slice A n c, .func (.func 106) #[] #[pt s]] w fun e w' => e = .returned (.bool y) ∧ Below w.heap.size w w' := by
  have HI := Lib.hid (idx_pz (c := c) hn hl hr hB ok hd y hy)
  clear hd hy hr hn
  go_enter Try.func105, Try.ntmps105
  go_wp2_with (first | ((with_reducible refine HI.out.mono ?_); rintro e w1 ⟨⟨i, rfl, hi⟩, hB1⟩))
  go_ret
  exact ⟨ret_bool hi.out, hB1⟩
theorem all_pz {w : World} {B : Nat} {A : Option Addr} {l : List Pz} {n c : Nat} (hn : l.length = n) (hl : (n : Int) ≤ 1000000) (hr : RW pz w B A l) (hB : B ≤ w.heap.size) (ok : Pz → Prop)
    (hd : ∀ V, Below w.heap.size w V → ∀ q ∈ l, ∀ x : Bool, (x = true ↔ ok q) → Calls Try.prog 95 #[pzv q] V fun e w' => e = .returned (.bool x) ∧ Below V.heap.size V w') (x : Bool) (hx : x = true ↔ ∀ q ∈ l, ok q) :
    Calls Try.prog 94 #[.slice A n c, .func (.func 95) #[] #[]] w fun e w' => e = .returned (.bool x) ∧ Below w.heap.size w w' := by
  have hb : Below w.heap.size w (w.alloc (.cells #[.func (.func 95) #[] #[]] 125)) := by go_grown
  have hnew := heap_alloc_new w (.cells #[.func (.func 95) #[] #[]] 125)
  have hlt : w.heap.size < (w.alloc (.cells #[.func (.func 95) #[] #[]] 125)).heap.size := by simp
  have hy : (!x) = true ↔ ∃ q ∈ l, ¬ ok q := by
    rw [not_iff' hx]
    constructor
    · intro h; apply Classical.byContradiction; intro h2; exact h (fun q hq => Classical.byContradiction fun h3 => h2 ⟨q, hq, h3⟩)
    · rintro ⟨q, hq, h⟩ h2; exact h (h2 q hq)
  have HC := Lib.hid (con_pz (w := w.alloc (.cells #[.func (.func 95) #[] #[]] 125)) (s := w.heap.size) (c := c) hn hl (hr.below hb hB) (Nat.le_trans hB hb.size) ok (fun V hV q hq x' hx' => by
    have hcell : V.cell? ⟨w.heap.size, 0, none⟩ = some (.func (.func 95) #[] #[]) := blk_cell hnew hV hlt 0
    exact cl_pz hcell (Nat.lt_of_lt_of_le hlt hV.size) q x' (fun V' hV' => hd V' ((hb.trans (hV.mono hb.size)).trans (hV'.mono (Nat.le_trans hb.size hV.size))) q hq x' hx')) (!x) hy)
  clear hd hx hy hr hn hnew hlt
  go_enter Try.func94, Try.ntmps94
  go_wp2_with (first | ((with_reducible refine HC.out.mono ?_); rintro e w1 ⟨rfl, hB1⟩))
  go_ret
  exact ⟨by simp, hb.trans (hB1.mono hb.size)⟩

theorem effc {V : World} {B b : Nat} {c : Cn} (hr : RC V B c) (hB : B ≤ V.heap.size) (hs : Sm c) (hb : At V b (cnc c)) (hbl : b < V.heap.size) (q : Ef) (x : Bool) (hx : x = true ↔ EfOk c q) : Calls Try.prog 80 #[efv q, pt b] V fun e w' => e = .returned (.bool x) ∧ Below V.heap.size V w' := by
  obtain ⟨c0, c1, c2, c3, c4, c5, c6, c7, c8, c9⟩ := hb.ten
  have HR := Lib.hid hr; have HX := Lib.hid hx; have HS := Lib.hid hs
  clear hr hx hs hb
  go_enter Try.func80, Try.ntmps80
  go_wp2_with (first | ((with_reducible refine (isEffect_any (HR.out.below (by go_grown) hB) (by go_size) HS.out q x HX.out).mono ?_); rintro e w1 ⟨rfl, hB1⟩; have hV1 := bstep hB1 (V := V) (by go_grown)))
  go_ret
  exact ⟨rfl, hV1⟩

theorem linc {V : World} {B b : Nat} {c : Cn} (hr : RC V B c) (hB : B ≤ V.heap.size) (hs : Sm c) (hb : At V b (cnc c)) (hbl : b < V.heap.size) (q : Ln) (x : Bool) (hx : x = true ↔ LnOk c q) : Calls Try.prog 84 #[lnv q, pt b] V fun e w' => e = .returned (.bool x) ∧ Below V.heap.size V w' := by
  obtain ⟨c0, c1, c2, c3, c4, c5, c6, c7, c8, c9⟩ := hb.ten
  have HR := Lib.hid hr; have HX := Lib.hid hx; have HS := Lib.hid hs
  clear hr hx hs hb
  go_enter Try.func84, Try.ntmps84
  go_wp2_with (first | ((with_reducible refine (isLine_any (HR.out.below (by go_grown) hB) (by go_size) HS.out q x HX.out).mono ?_); rintro e w1 ⟨rfl, hB1⟩; have hV1 := bstep hB1 (V := V) (by go_grown)))
  go_ret
  exact ⟨rfl, hV1⟩
end Go.Proofs.Ytijobbdgiaiocaa.Con
