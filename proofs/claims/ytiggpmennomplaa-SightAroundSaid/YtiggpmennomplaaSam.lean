/-
  The contracts of the document's Same and of the laws' has: over any two rows of tiles, and any tile.
-/
import Derived.Test.YtiggpmennomplaaRdt
import Derived.Deep.LoopGhost
import Derived.BigQuiet
namespace Go.Proofs.Ytiggpmennomplaa.Con
open Go.RowKit Go.Shelf Arn

theorem tile_ext {s t : Tile} (h1 : s.1.1 = t.1.1) (h2 : s.1.2 = t.1.2) : s = t := by
  obtain ⟨⟨a, b⟩, h⟩ := s; obtain ⟨⟨c, d⟩, h'⟩ := t; simp at *; exact ⟨h1, h2⟩
theorem eq_take {a b : List Tile} {k : Nat} {s t : Tile} (hs : a[k]? = some s) (ht : b[k]? = some t) (h : a.take k = b.take k) (he : s = t) : a.take (k + 1) = b.take (k + 1) := by
  rw [List.take_add_one, List.take_add_one, hs, ht, h, he]
theorem same_len {w : World} {A A' : Option Addr} {a b : List Tile} {c c' : Nat} (hn : a.length ≠ b.length) : Calls Try.prog 11 #[.slice A a.length c, .slice A' b.length c'] w fun e w' => e = .returned (.bool false) ∧ w = w' := by
  have h1 : ((a.length : Int) != (b.length : Int)) = true := by simp; omega
  have h2 : ¬ (a.length : Int) = b.length := by omega
  go_enter Try.func11, Try.ntmps11
  go_wp2
  go_ret
  exact ⟨rfl, rfl⟩
set_option maxHeartbeats 2000000 in
theorem same_go {w : World} {B B' : Nat} {A A' : Option Addr} {a b : List Tile} {c c' : Nat} (ha : RT w B A a) (hb : RT w B' A' b) (hn : a.length = b.length) (hl : (a.length : Int) ≤ 70000) (x : Bool) (hx : decide (a = b) = x) : Calls Try.prog 11 #[.slice A a.length c, .slice A' b.length c'] w fun e w' => e = .returned (.bool x) ∧ ∃ k, w' = w.drewN k := by
  have HA := Lib.hid ha; have HB := Lib.hid hb; have HX := Lib.hid hx; have HN := Lib.hid hn
  have hn1 : ((a.length : Int) != (b.length : Int)) = false := by simp; omega
  clear ha hb hx hn
  go_enter Try.func11, Try.ntmps11
  go_wp2
  go_loopg [5] a.length (fun m s5 wr => ∃ (k q : Nat), k ≤ a.length ∧ m = a.length - k ∧ s5 = .int .i64 (k : Int) ∧ Hid (wr = w.drewN q) ∧ Hid (a.take k = b.take k))
  case atStart => exact ⟨0, 0, by omega, rfl, rfl, Lib.hid rfl, Lib.hid (by simp)⟩
  case round =>
    obtain ⟨k, q, hk, rfl, rfl, HW, HE⟩ := hrel
    by_cases hkl : k < a.length
    · have hkl' : (k : Int) < a.length := by omega
      have hkb' : (k : Int) < b.length := by have := HN.out; omega
      have hkb : k < b.length := by omega
      obtain ⟨s, hs⟩ : ∃ s, a[k]? = some s := ⟨_, List.getElem?_eq_getElem hkl⟩
      obtain ⟨t, ht⟩ : ∃ t, b[k]? = some t := ⟨_, List.getElem?_eq_getElem hkb⟩
      obtain ⟨p, hA, hpl, e1, e2⟩ := HA.out.at' hs
      obtain ⟨p', hA', hpl', d1, d2⟩ := HB.out.at' ht
      subst hA; subst hA'
      have HG : Hid (a ≠ b ∨ s = t) := Lib.hid (by
        by_cases h : a = b
        · right; rw [h, ht] at hs; injection hs with hs; exact hs.symm
        · left; exact h)
      have HEq : Hid (s = t → a.take (k + 1) = b.take (k + 1)) := Lib.hid (fun h => eq_take hs ht HE.out h)
      clear hs ht
      have c1 : wr.cell? ⟨p, k * 2, none⟩ = some (.int .i64 s.1.1) := by rw [HW.out]; exact e1
      have c2 : wr.cell? ⟨p, k * 2 + 1, none⟩ = some (.int .i64 s.1.2) := by rw [HW.out]; exact e2
      have f1 : wr.cell? ⟨p', k * 2, none⟩ = some (.int .i64 t.1.1) := by rw [HW.out]; exact d1
      have f2 : wr.cell? ⟨p', k * 2 + 1, none⟩ = some (.int .i64 t.1.2) := by rw [HW.out]; exact d2
      clear e1 e2 d1 d2
      by_cases hst : s = t
      · subst hst
        have HEq' := Lib.hid (HEq.out rfl)
        clear HEq HG
        generalize s.1.1 = sx at *
        generalize s.1.2 = sy at *
        go_wp2
        go_quiet (fail)
        go_wp2
        go_roundg (a.length - (k + 1))
        case measure => omega
        case rel => exact ⟨k + 1, q + nq, by omega, rfl, by go_num, Lib.hid (by rw [HW.out, World.drewN_drewN]), HEq'⟩
      · have HF : Hid (x = false) := Lib.hid (by
          rcases HG.out with h | h
          · rw [← HX.out]; simp [h]
          · exact absurd h hst)
        have hne : ¬ (s.1.1 = t.1.1 ∧ s.1.2 = t.1.2) := fun h => hst (tile_ext h.1 h.2)
        clear hst HEq HG
        generalize s.1.1 = sx at *
        generalize s.1.2 = sy at *
        generalize t.1.1 = tx at *
        generalize t.1.2 = ty at *
        by_cases q1 : sx = tx
        · have q2 : sy ≠ ty := fun h => hne ⟨q1, h⟩
          have r1 : (sx == tx) = true := by simpa using q1
          have r2 : (sy == ty) = false := by simpa using q2
          clear q1 q2 hne
          go_wp2
          go_quiet (fail)
          go_wp2
          go_ret
          exact ⟨by rw [HF.out]; rfl, _, by rw [HW.out, World.drewN_drewN]⟩
        · have r1 : (sx == tx) = false := by simpa using q1
          clear q1 hne
          go_wp2
          go_quiet (fail)
          go_wp2
          go_ret
          exact ⟨by rw [HF.out]; rfl, _, by rw [HW.out, World.drewN_drewN]⟩
    · have hkl' : ¬ (k : Int) < a.length := by omega
      have HT : Hid (x = true) := Lib.hid (by
        have := HE.out
        rw [List.take_of_length_le (by omega), List.take_of_length_le (by have := HN.out; omega)] at this
        rw [← HX.out, this]; simp)
      go_wp2
      go_ret
      exact ⟨by rw [HT.out]; rfl, q, HW.out⟩

theorem same_any {w : World} {B B' : Nat} {A A' : Option Addr} {a b : List Tile} {c c' : Nat} (ha : RT w B A a) (hb : RT w B' A' b) (hl : a.length ≤ 70000) (x : Bool) (hx : decide (a = b) = x) : Calls Try.prog 11 #[.slice A a.length c, .slice A' b.length c'] w fun e w' => e = .returned (.bool x) ∧ ∃ k, w' = w.drewN k := by
  by_cases hn : a.length = b.length
  · exact same_go ha hb hn (by omega) x hx
  · refine (same_len hn).mono fun e w' h => ⟨?_, 0, h.2.symm⟩
    have : decide (a = b) = false := by simp; intro h; exact hn (by rw [h])
    rw [← hx, this]
    exact h.1

/-- Is a tile among some? -/
def hasB (l : List Tile) (x y : Int) : Bool := l.any fun q => decide (q.1.1 = x) && decide (q.1.2 = y)
theorem any_take {l : List Tile} {f : Tile → Bool} {k : Nat} {t : Tile} (ht : l[k]? = some t) (h : (l.take k).any f = false) (he : f t = false) : (l.take (k + 1)).any f = false := by
  rw [List.take_add_one, List.any_append, h, ht]; simp [he]
theorem any_yes {l : List Tile} {f : Tile → Bool} {k : Nat} {t : Tile} (ht : l[k]? = some t) (he : f t = true) : l.any f = true := List.any_eq_true.2 ⟨t, List.mem_of_getElem? ht, he⟩

set_option maxHeartbeats 2000000 in
theorem has_any {w : World} {B : Nat} {A : Option Addr} {l : List Tile} {c : Nat} (x y : Int) (hl0 : RT w B A l) (hB : B ≤ w.heap.size) (hl : (l.length : Int) ≤ 70000) : Calls Try.prog 19 #[.slice A l.length c, pv x y] w fun e w' => e = .returned (.bool (hasB l x y)) ∧ Below w.heap.size w w' := by
  have hb : Below w.heap.size w (w.alloc (.cells #[.int .i64 x, .int .i64 y] 26)) := (Below.refl _ w).alloc (Nat.le_refl _) _
  have HP := Lib.hid (BoxP.new w x y)
  have HL := Lib.hid (hl0.below hb hB)
  have HB := Lib.hid hb
  clear hl0 hb
  go_enter Try.func19, Try.ntmps19
  go_wp2
  generalize hV : w.alloc (.cells #[.int .i64 x, .int .i64 y] 26) = V at HP HL HB ⊢
  have HV := Lib.hid hV; clear hV
  go_loopg [5] l.length (fun m s5 wr => ∃ (k q : Nat), k ≤ l.length ∧ m = l.length - k ∧ s5 = .int .i64 (k : Int) ∧ Hid (wr = V.drewN q) ∧ Hid ((l.take k).any (fun q => decide (q.1.1 = x) && decide (q.1.2 = y)) = false))
  case atStart => exact ⟨0, 0, by omega, rfl, rfl, Lib.hid rfl, Lib.hid (by simp)⟩
  case round =>
    obtain ⟨k, q, hk, rfl, rfl, HW, HE⟩ := hrel
    have x0 : wr.cell? ⟨w.heap.size, 0, none⟩ = some (.int .i64 x) := by rw [HW.out]; exact HP.out.cell0
    have x1 : wr.cell? ⟨w.heap.size, 1, none⟩ = some (.int .i64 y) := by rw [HW.out]; exact HP.out.cell1
    by_cases hkl : k < l.length
    · have hkl' : (k : Int) < l.length := by omega
      obtain ⟨s, hs⟩ : ∃ s, l[k]? = some s := ⟨_, List.getElem?_eq_getElem hkl⟩
      obtain ⟨p, hA, hpl, e1, e2⟩ := HL.out.at' hs
      subst hA
      have c1 : wr.cell? ⟨p, k * 2, none⟩ = some (.int .i64 s.1.1) := by rw [HW.out]; exact e1
      have c2 : wr.cell? ⟨p, k * 2 + 1, none⟩ = some (.int .i64 s.1.2) := by rw [HW.out]; exact e2
      have HY : Hid (s.1.1 = x ∧ s.1.2 = y → hasB l x y = true) := Lib.hid (fun h => any_yes hs (by simp [h]))
      have HN : Hid (¬ (s.1.1 = x ∧ s.1.2 = y) → (l.take (k + 1)).any (fun q => decide (q.1.1 = x) && decide (q.1.2 = y)) = false) := Lib.hid (fun h => any_take hs HE.out (by simpa using h))
      clear e1 e2 hs
      generalize s.1.1 = sx at *
      generalize s.1.2 = sy at *
      by_cases q1 : sx = x
      · by_cases q2 : sy = y
        · have r1 : (sx == x) = true := by simpa using q1
          have r2 : (sy == y) = true := by simpa using q2
          have HY' := Lib.hid (HY.out ⟨q1, q2⟩)
          clear q1 q2 HY HN
          go_wp2
          go_quiet (fail)
          go_wp2
          go_ret
          exact ⟨by rw [HY'.out]; rfl, by rw [HW.out, World.drewN_drewN]; exact below_drewN HB.out _⟩
        · have r1 : (sx == x) = true := by simpa using q1
          have r2 : (sy == y) = false := by simpa using q2
          have HN' := Lib.hid (HN.out (fun h => q2 h.2))
          clear q1 q2 HY HN
          go_wp2
          go_quiet (fail)
          go_wp2
          go_roundg (l.length - (k + 1))
          case measure => omega
          case rel => exact ⟨k + 1, q + nq, by omega, rfl, by go_num, Lib.hid (by rw [HW.out, World.drewN_drewN]), HN'⟩
      · have r1 : (sx == x) = false := by simpa using q1
        have HN' := Lib.hid (HN.out (fun h => q1 h.1))
        clear q1 HY HN
        go_wp2
        go_quiet (fail)
        go_wp2
        go_roundg (l.length - (k + 1))
        case measure => omega
        case rel => exact ⟨k + 1, q + nq, by omega, rfl, by go_num, Lib.hid (by rw [HW.out, World.drewN_drewN]), HN'⟩
    · have hkl' : ¬ (k : Int) < l.length := by omega
      have HT : Hid (hasB l x y = false) := Lib.hid (by
        have := HE.out
        rw [List.take_of_length_le (by omega)] at this
        exact this)
      go_wp2
      go_ret
      exact ⟨by rw [HT.out]; rfl, by rw [HW.out]; exact below_drewN HB.out _⟩
end Go.Proofs.Ytiggpmennomplaa.Con
