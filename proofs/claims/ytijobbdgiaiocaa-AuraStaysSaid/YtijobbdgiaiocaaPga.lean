/-
  Contracts of what is small in package aura: copies, when an aura ticks first, what stacks take away, where one is, whether one is of a kind, how much all of a kind make.
-/
import Derived.Test.YtijobbdgiaiocaaAul
import Derived.Handy
namespace Go.Proofs.Ytijobbdgiaiocaa.Con
open Go.RowKit Go.Maps

/-- What a copy leaves. -/
def CpA (w : World) (l : List Ac) (e : Ending) (w' : World) : Prop := ∃ (A' : Option Addr) (c' : Nat), e = .returned (.slice A' l.length c') ∧ Hid (OW ac w' w.heap.size (.slice A' l.length c') l) ∧ Below w.heap.size w w'
theorem copyOf_any (A : Option Addr) (c n B : Nat) (l : List Ac) (w : World) (hn : l.length = n) (hr : RW ac w B A l) (hl : (n : Int) ≤ 100000) :
    Calls Try.prog 29 #[.slice A n c] w (CpA w l) := by
  have HR := Lib.hid hr; have HK := Lib.hid hn
  have HO := Lib.hid (OW.nil ac w w.heap.size)
  have HL : Hid (([] : List Ac).length + l.length ≤ 1000000) := Lib.hid (by rw [hn]; simp; omega)
  clear hr hn
  go_enter Try.func29, Try.ntmps29
  go_wp2_with (at_builtin; refine wpList_app ac rfl 32 rfl (.const (.slice none 0 0)) (.tmp 3) rfl w.heap.size B (.slice none 0 0) [] l A c n HK.out rfl rfl HO.out HR.out HL.out (Nat.le_refl _) ?_; intro A2 c2 w2 lm HLM HO2 HS2 HB2)
  go_ret
  have hl2 : lm = l := by have := HLM.out; simpa using this
  subst hl2
  have hb : Below w.heap.size w w2 := below_app (Below.refl _ _) HS2.out (fun j hj => by cases hj)
  exact ⟨A2, c2, rfl, HO2, hb⟩
theorem copied_any (A : Option Addr) (c n B : Nat) (l : List Ac) (w : World) (hn : l.length = n) (hr : RW ac w B A l) (hB : B ≤ w.heap.size) (hl : (n : Int) ≤ 100000) :
    Calls Try.prog 34 #[.slice A n c] w (CpA w l) := by
  have hb : Below w.heap.size w (w.alloc (.cells #[] 42)) := below_box _ _
  have HR := Lib.hid (hr.below hb hB); have HK := Lib.hid hn
  have HO := Lib.hid (OW.room ac w)
  have HL : Hid (([] : List Ac).length + l.length ≤ 1000000) := Lib.hid (by rw [hn]; simp; omega)
  clear hr hn
  go_enter Try.func34, Try.ntmps34
  go_wp2_with (at_builtin; refine wpList_app ac rfl 32 rfl (.tmp 3) (.tmp 4) rfl w.heap.size B (.slice (some ⟨w.heap.size, 0, none⟩) 0 0) [] l A c n HK.out rfl rfl HO.out HR.out HL.out (by simp) ?_; intro A2 c2 w2 lm HLM HO2 HS2 HB2)
  go_ret
  have hl2 : lm = l := by have := HLM.out; simpa using this
  subst hl2
  have hb2 : Below w.heap.size w w2 := below_app hb HS2.out (fun j hj => by simp [Value.ownBlock] at hj; omega)
  exact ⟨A2, c2, rfl, HO2, hb2⟩

theorem firstTick_any (of : Au) (now : Int) (w : World) (h : NAu of) (hn : Fits now) :
    Calls Try.prog 30 #[auv of, .int .i64 now] w fun e w' => e = .returned (.int .i64 (firstT of now)) ∧ Below w.heap.size w w' := by
  have hb := below_box w (oAu of)
  have hev := h.2.1
  by_cases he : of.every = 0
  · have he' : (of.every == 0) = true := by simpa using he
    have HE : Hid (firstT of now = 0) := Lib.hid (by unfold firstT; rw [if_pos he])
    clear he
    go_enter Try.func30, Try.ntmps30
    go_wp2
    go_ret
    exact ⟨ret_int HE.out.symm, hb⟩
  · have he' : (of.every == 0) = false := by simpa using he
    have HE : Hid (firstT of now = held (now + of.every)) := Lib.hid (by unfold firstT; rw [if_neg he])
    clear he
    go_enter Try.func30, Try.ntmps30
    go_wp2_with ((with_reducible refine (add_any _ _ _ hn hev).mono ?_); rintro e w' ⟨rfl, rfl⟩)
    go_ret
    exact ⟨ret_int HE.out.symm, hb⟩
theorem fullLeft_any (of : Au) (s : Int) (w : World) (h : NAu of) (hs : Fits s) :
    Calls Try.prog 32 #[auv of, .int .i64 s] w fun e w' => e = .returned (.int .i64 (fullL of s)) ∧ Below w.heap.size w w' := by
  have hb := below_box w (oAu of)
  have hev := h.2.2.2
  by_cases he : of.kind = 5
  · have he' : (of.kind == 5) = true := by simpa using he
    have HE : Hid (fullL of s = held (of.amount * s)) := Lib.hid (by unfold fullL; rw [if_pos he])
    clear he
    go_enter Try.func32, Try.ntmps32
    go_wp2_with ((with_reducible refine (mul_any _ _ _ hev hs).mono ?_); rintro e w' ⟨rfl, rfl⟩)
    go_ret
    exact ⟨ret_int HE.out.symm, hb⟩
  · have he' : (of.kind == 5) = false := by simpa using he
    have HE : Hid (fullL of s = 0) := Lib.hid (by unfold fullL; rw [if_neg he])
    clear he
    go_enter Try.func32, Try.ntmps32
    go_wp2
    go_ret
    exact ⟨ret_int HE.out.symm, hb⟩
theorem left15_any (of : Au) (s : Int) (w : World) (h : NAu of) (hs : Fits s) :
    Calls Try.prog 36 #[auv of, .int .i64 s] w fun e w' => e = .returned (.int .i64 (fullL of s)) ∧ Below w.heap.size w w' := by
  have hb := below_box w (oAu of)
  have hev := h.2.2.2
  by_cases he : of.kind = 5
  · have he' : (of.kind == 5) = true := by simpa using he
    have HE : Hid (fullL of s = held (of.amount * s)) := Lib.hid (by unfold fullL; rw [if_pos he])
    clear he
    go_enter Try.func36, Try.ntmps36
    go_wp2_with ((with_reducible refine (rmul_any _ _ _ hev hs).mono ?_); rintro e w' ⟨rfl, hB1⟩)
    go_ret
    exact ⟨ret_int HE.out.symm, bstep hB1 hb⟩
  · have he' : (of.kind == 5) = false := by simpa using he
    have HE : Hid (fullL of s = 0) := Lib.hid (by unfold fullL; rw [if_neg he])
    clear he
    go_enter Try.func36, Try.ntmps36
    go_wp2
    go_ret
    exact ⟨ret_int HE.out.symm, hb⟩

/-! ### where one is -/
theorem place1_any (x : Ac) (id src : Int) (p q : Nat) (w : World) (hp : w.cell? ⟨p, 0, none⟩ = some (.int .i64 id)) (hq : w.cell? ⟨q, 0, none⟩ = some (.int .i64 src)) :
    Calls Try.prog 54 #[acv x, pt p, pt q] w fun e w' => e = .returned (.bool (isAc id src x)) ∧ Below w.heap.size w w' := by
  have hb := below_box w (oAc x)
  have hpl := World.block_lt_of_cell? w _ hp
  have hql := World.block_lt_of_cell? w _ hq
  simp only at hpl hql
  by_cases h1 : x.aura = id
  · have h1' : (x.aura == id) = true := by simpa using h1
    by_cases h2 : x.source = src
    · have h2' : (x.source == src) = true := by simpa using h2
      have HE : Hid (isAc id src x = true) := Lib.hid (by unfold isAc; simp [h1, h2])
      clear h1 h2
      go_enter Try.func54, Try.ntmps54
      go_wp2
      go_ret
      exact ⟨ret_bool HE.out.symm, hb⟩
    · have h2' : (x.source == src) = false := by simpa using h2
      have HE : Hid (isAc id src x = false) := Lib.hid (by unfold isAc; simp [h2])
      clear h1 h2
      go_enter Try.func54, Try.ntmps54
      go_wp2
      go_ret
      exact ⟨ret_bool HE.out.symm, hb⟩
  · have h1' : (x.aura == id) = false := by simpa using h1
    have HE : Hid (isAc id src x = false) := Lib.hid (by unfold isAc; simp [h1])
    clear h1
    go_enter Try.func54, Try.ntmps54
    go_wp2
    go_ret
    exact ⟨ret_bool HE.out.symm, hb⟩
theorem rowAc {w W : World} {B B' : Nat} {A : Option Addr} {l : List Ac} (hr : RW ac w B A l) {k : Nat} {x : Ac} (hx : l[k]? = some x) (hb : Below B' w W) (hB : B ≤ B') :
    ∃ p off, A = some ⟨p, off, none⟩ ∧ p < B ∧ W.cell? ⟨p, off + k * 6, none⟩ = some (.int .i64 x.aura) ∧ W.cell? ⟨p, off + k * 6 + 1, none⟩ = some (.int .i64 x.source) ∧ W.cell? ⟨p, off + k * 6 + 2, none⟩ = some (.int .i64 x.stacks) ∧ W.cell? ⟨p, off + k * 6 + 3, none⟩ = some (.int .i64 x.untl) ∧ W.cell? ⟨p, off + k * 6 + 4, none⟩ = some (.int .i64 x.nxt) ∧ W.cell? ⟨p, off + k * 6 + 5, none⟩ = some (.int .i64 x.left) := by
  obtain ⟨p, off, hA, hp, hc⟩ := row_in hr hx hb hB
  exact ⟨p, off, hA, hp, cellsAc hc⟩

set_option maxRecDepth 100000 in
set_option maxHeartbeats 4000000 in
theorem idx_pl {w : World} {B p q : Nat} {A : Option Addr} {l : List Ac} {n c : Nat} (hn : l.length = n) (hl : (n : Int) ≤ 1000000) (hr : RW ac w B A l) (hB : B ≤ w.heap.size) (P : Ac → Bool)
    (hd : ∀ V, Below w.heap.size w V → ∀ x ∈ l, Calls Try.prog 54 #[acv x, pt p, pt q] V fun e w' => e = .returned (.bool (P x)) ∧ Below V.heap.size V w') :
    Calls Try.prog 53 #[.slice A n c, .func (.func 54) #[] #[pt p, pt q]] w fun e w' => e = .returned (.int .i64 (idxI P l)) ∧ Below w.heap.size w w' := by
  have HD := Lib.hid hd; have HRT := Lib.hid hr; have HK := Lib.hid hn
  clear hd hr hn
  go_enter Try.func53, Try.ntmps53
  go_wp2
  go_loopg [8] n (fun m s8 wr => ∃ (k : Nat), k ≤ n ∧ m = n - k ∧ s8 = .int .i64 (k : Int) ∧ Hid (∀ y ∈ l.take k, P y = false) ∧ Hid (Below w.heap.size w wr))
  case atStart => exact ⟨0, by omega, rfl, rfl, Lib.hid (by simp), Lib.hid (Below.refl _ _)⟩
  case round =>
    obtain ⟨k, hk, rfl, rfl, HF, HW⟩ := hrel
    by_cases hkl : k < n
    · have hkl' : (k : Int) < n := by omega
      obtain ⟨x, hx⟩ : ∃ x, l[k]? = some x := ⟨_, List.getElem?_eq_getElem (by rw [HK.out]; exact hkl)⟩
      obtain ⟨b, off, hA, hpl, c0, c1, c2, c3, c4, c5⟩ := rowAc HRT.out hx HW.out hB
      subst hA
      have HDQ := Lib.hid (HD.out wr HW.out x (List.mem_of_getElem? hx))
      have HX := Lib.hid hx
      clear hx
      obtain ⟨y, hy⟩ : ∃ y, P x = y := ⟨_, rfl⟩
      have HY := Lib.hid hy
      rw [hy] at HDQ
      clear hy
      cases y with
      | true =>
        go_wp2_with (first | ((with_reducible refine HDQ.out.mono ?_); rintro e w1 ⟨rfl, hB1⟩))
        go_ret
        exact ⟨ret_int (idx_hit HX.out HY.out HF.out).symm, HW.out.trans (hB1.mono HW.out.size)⟩
      | false =>
        have HF2 := Lib.hid (take_no HX.out HY.out HF.out)
        go_wp2_with (first | ((with_reducible refine HDQ.out.mono ?_); rintro e w1 ⟨rfl, hB1⟩))
        go_roundg (n - (k + 1))
        case rel => exact ⟨k + 1, by omega, rfl, by go_num, HF2, Lib.hid (HW.out.trans (hB1.mono HW.out.size))⟩
        case measure => omega
    · have hkl' : decide ((k : Int) < n) = false := by simp; omega
      go_wp2
      go_ret
      exact ⟨ret_int (idx_miss (take_done (by have := HK.out; omega) HF.out)).symm, HW.out⟩

set_option maxRecDepth 100000 in
set_option maxHeartbeats 4000000 in
theorem idx_ha {w : World} {B p q : Nat} {A : Option Addr} {l : List Ac} {n c : Nat} (hn : l.length = n) (hl : (n : Int) ≤ 1000000) (hr : RW ac w B A l) (hB : B ≤ w.heap.size) (P : Ac → Bool)
    (hd : ∀ V, Below w.heap.size w V → ∀ x ∈ l, Calls Try.prog 50 #[acv x, pt p, pt q] V fun e w' => e = .returned (.bool (P x)) ∧ Below V.heap.size V w') :
    Calls Try.prog 53 #[.slice A n c, .func (.func 50) #[] #[pt p, pt q]] w fun e w' => e = .returned (.int .i64 (idxI P l)) ∧ Below w.heap.size w w' := by
  have HD := Lib.hid hd; have HRT := Lib.hid hr; have HK := Lib.hid hn
  clear hd hr hn
  go_enter Try.func53, Try.ntmps53
  go_wp2
  go_loopg [8] n (fun m s8 wr => ∃ (k : Nat), k ≤ n ∧ m = n - k ∧ s8 = .int .i64 (k : Int) ∧ Hid (∀ y ∈ l.take k, P y = false) ∧ Hid (Below w.heap.size w wr))
  case atStart => exact ⟨0, by omega, rfl, rfl, Lib.hid (by simp), Lib.hid (Below.refl _ _)⟩
  case round =>
    obtain ⟨k, hk, rfl, rfl, HF, HW⟩ := hrel
    by_cases hkl : k < n
    · have hkl' : (k : Int) < n := by omega
      obtain ⟨x, hx⟩ : ∃ x, l[k]? = some x := ⟨_, List.getElem?_eq_getElem (by rw [HK.out]; exact hkl)⟩
      obtain ⟨b, off, hA, hpl, c0, c1, c2, c3, c4, c5⟩ := rowAc HRT.out hx HW.out hB
      subst hA
      have HDQ := Lib.hid (HD.out wr HW.out x (List.mem_of_getElem? hx))
      have HX := Lib.hid hx
      clear hx
      obtain ⟨y, hy⟩ : ∃ y, P x = y := ⟨_, rfl⟩
      have HY := Lib.hid hy
      rw [hy] at HDQ
      clear hy
      cases y with
      | true =>
        go_wp2_with (first | ((with_reducible refine HDQ.out.mono ?_); rintro e w1 ⟨rfl, hB1⟩))
        go_ret
        exact ⟨ret_int (idx_hit HX.out HY.out HF.out).symm, HW.out.trans (hB1.mono HW.out.size)⟩
      | false =>
        have HF2 := Lib.hid (take_no HX.out HY.out HF.out)
        go_wp2_with (first | ((with_reducible refine HDQ.out.mono ?_); rintro e w1 ⟨rfl, hB1⟩))
        go_roundg (n - (k + 1))
        case rel => exact ⟨k + 1, by omega, rfl, by go_num, HF2, Lib.hid (HW.out.trans (hB1.mono HW.out.size))⟩
        case measure => omega
    · have hkl' : decide ((k : Int) < n) = false := by simp; omega
      go_wp2
      go_ret
      exact ⟨ret_int (idx_miss (take_done (by have := HK.out; omega) HF.out)).symm, HW.out⟩
theorem place_any {w : World} {B : Nat} {A : Option Addr} {l : List Ac} {n c : Nat} (id src : Int) (hn : l.length = n) (hl : (n : Int) ≤ 1000000) (hr : RW ac w B A l) (hB : B ≤ w.heap.size) :
    Calls Try.prog 28 #[.slice A n c, .int .i64 id, .int .i64 src] w fun e w' => e = .returned (.int .i64 (plI l id src)) ∧ Below w.heap.size w w' := by
  have hb : Below w.heap.size w ((w.alloc (.cells #[.int .i64 id] 3)).alloc (.cells #[.int .i64 src] 3)) := by go_grown
  have hn1 : ((w.alloc (.cells #[.int .i64 id] 3)).alloc (.cells #[.int .i64 src] 3)).heap[w.heap.size]? = some (.cells #[.int .i64 id] 3) := (Below.heap_alloc _ _ _ (by simp)).trans (heap_alloc_new w _)
  have hn2 : ((w.alloc (.cells #[.int .i64 id] 3)).alloc (.cells #[.int .i64 src] 3)).heap[w.heap.size + 1]? = some (.cells #[.int .i64 src] 3) := by have := heap_alloc_new (w.alloc (.cells #[.int .i64 id] 3)) (.cells #[.int .i64 src] 3); simpa using this
  have hsz : ((w.alloc (.cells #[.int .i64 id] 3)).alloc (.cells #[.int .i64 src] 3)).heap.size = w.heap.size + 1 + 1 := by simp
  have HI := Lib.hid (idx_pl (w := (w.alloc (.cells #[.int .i64 id] 3)).alloc (.cells #[.int .i64 src] 3)) (c := c) (p := w.heap.size) (q := w.heap.size + 1) hn hl (hr.below hb hB) (Nat.le_trans hB hb.size) (isAc id src) (fun V hV x _ => by
    have z1 := blk_cell hn1 hV (by omega) 0
    have z2 := blk_cell hn2 hV (by omega) 0
    exact place1_any x id src _ _ V z1 z2))
  clear hr hn hn1 hn2
  go_enter Try.func28, Try.ntmps28
  go_wp2_with ((with_reducible refine HI.out.mono ?_); rintro e w1 ⟨rfl, hB1⟩)
  go_ret
  exact ⟨rfl, hb.trans (hB1.mono hb.size)⟩
end Go.Proofs.Ytijobbdgiaiocaa.Con
