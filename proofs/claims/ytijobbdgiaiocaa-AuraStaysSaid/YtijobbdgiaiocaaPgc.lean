/-
  Contracts of part of package aura, once for each closure that it is called with; of Expire and Dispel.
-/
import Derived.Test.YtijobbdgiaiocaaPgb
namespace Go.Proofs.Ytijobbdgiaiocaa.Con
open Go.RowKit Go.Maps

/-- From block number N on, what was there is as it was. -/
def Up (N : Nat) (V V' : World) : Prop := V.heap.size ≤ V'.heap.size ∧ ∀ k, N ≤ k → k < V.heap.size → V'.heap[k]? = V.heap[k]?
theorem Up.of {N : Nat} {V V' : World} (h : Below V.heap.size V V') : Up N V V' := ⟨h.size, fun k _ hk => h.block k hk⟩
theorem Two.call {α β : Type} {E : El α} {F : El β} {w0 w1 V V' : World} {base : Nat} {v u : Value} {l : List α} {m : List β} (h : Two E F w0 V base v u l m) (hU : Up base V V') (hB : Below base w1 V') : Two E F w1 V' base v u l m :=
  ⟨h.a.keep (fun k hk => hU.2 k (h.a.lt hk).1 (h.a.lt hk).2), h.b.keep (fun k hk => hU.2 k (h.b.lt hk).1 (h.b.lt hk).2), h.ne, hB, Nat.le_trans h.top hU.1⟩
theorem ret_two {A1 A2 : Option Addr} {n1 n2 m1 m2 c1 c2 : Nat} (h1 : n1 = m1) (h2 : n2 = m2) : Ending.returned (.tuple #[.slice A1 n1 c1, .slice A2 n2 c2]) = .returned (.tuple #[.slice A1 m1 c1, .slice A2 m2 c2]) := by rw [h1, h2]
/-- What part leaves: two rows of its own; below them the world is as wn. -/
def PrA (w wn : World) (L1 L2 : List Ac) (e : Ending) (w' : World) : Prop :=
  ∃ (A1 : Option Addr) (c1 : Nat) (A2 : Option Addr) (c2 : Nat), e = .returned (.tuple #[.slice A1 L1.length c1, .slice A2 L2.length c2]) ∧ Hid (Two ac ac wn w' w.heap.size (.slice A1 L1.length c1) (.slice A2 L2.length c2) L1 L2)
theorem box_ac {w : World} {x : Ac} {V : World} {N : Nat} (hU : Up N (w.alloc (oAc x)) V) (hN : N ≤ w.heap.size) : V.heap[w.heap.size]? = some (oAc x) :=
  (hU.2 _ hN (by simp)).trans (heap_alloc_new w _)

set_option maxRecDepth 20000 in
set_option maxHeartbeats 4000000 in
theorem part_ex {w : World} {B q : Nat} {A : Option Addr} {l : List Ac} {n c : Nat} (p : Nat → Bool) (wk : Nat → World) (h0 : wk 0 = w) (hn : l.length = n) (hl : (n : Int) ≤ 100000) (hr : ∀ k, RW ac (wk k) B A l) (hB : B ≤ w.heap.size)
    (hd : ∀ V k x, Below w.heap.size (wk k) V → w.heap.size ≤ V.heap.size → l[k]? = some x → Calls Try.prog 38 #[.int .i64 (k : Int), acv x, pt q] V fun e w' => e = .returned (.bool (p k)) ∧ Up w.heap.size V w' ∧ Below w.heap.size (wk (k + 1)) w') :
    Calls Try.prog 37 #[.slice A n c, .func (.func 38) #[] #[pt q]] w (PrA w (wk n) (goS p l n) (goS (fun i => !p i) l n)) := by
  have HD := Lib.hid hd; have HR := Lib.hid hr; have HK := Lib.hid hn; have HB := Lib.hid hB
  have HS0 : Hid (Two ac ac (wk 0) w w.heap.size (.slice none 0 0) (.slice none 0 0) [] []) := Lib.hid (by rw [h0]; exact Two.start ac ac (Below.refl _ _) (Nat.le_refl _))
  clear hd hr hn hB
  go_enter Try.func37, Try.ntmps37
  go_wp2
  clear h0
  go_loopg [6, 7, 12] n (fun gh s6 s7 s12 wr => ∃ (k : Nat) (A1 : Option Addr) (c1 : Nat) (L : List Ac) (A2 : Option Addr) (c2 : Nat) (G : List Ac), k ≤ n ∧ gh = n - k ∧ s12 = .int .i64 k ∧ s6 = .slice A1 L.length c1 ∧ s7 = .slice A2 G.length c2 ∧ Hid (L = goS p l k) ∧ Hid (G = goS (fun i => !p i) l k) ∧ Hid (Two ac ac (wk k) wr w.heap.size (.slice A1 L.length c1) (.slice A2 G.length c2) L G))
  case atStart => exact ⟨0, none, 0, [], none, 0, [], by omega, rfl, rfl, rfl, rfl, Lib.hid rfl, Lib.hid rfl, HS0⟩
  case round =>
    obtain ⟨k, A1, c1, L, A2, c2, G, hk, rfl, rfl, rfl, rfl, HL, HG, HTW⟩ := hrel
    by_cases hlt : k < n
    · obtain ⟨x, hx⟩ : ∃ x, l[k]? = some x := ⟨_, List.getElem?_eq_getElem (by rw [HK.out]; exact hlt)⟩
      obtain ⟨b, off, hA, hpl, d0, d1, d2, d3, d4, d5⟩ := rowAc (HR.out k) hx HTW.out.below HB.out
      subst hA
      have HX := Lib.hid hx
      have hlt' : (k : Int) < n := by omega
      have HA1 : Hid (Below wr.heap.size wr (wr.alloc (oAc x))) := Lib.hid (below_box _ _)
      have hT1 := HTW.out.of HA1.out
      have HC := Lib.hid (HD.out (wr.alloc (oAc x)) k x hT1.below hT1.top hx)
      have HT1 := Lib.hid hT1
      have hLb : L.length ≤ k := by rw [HL.out]; exact go_le _ _ _
      have hGb : G.length ≤ k := by rw [HG.out]; exact go_le _ _ _
      have HL1 : Hid (L.length + [x].length ≤ 1000000) := Lib.hid (by simp; omega)
      have HL2 : Hid (G.length + [x].length ≤ 1000000) := Lib.hid (by simp; omega)
      have HW0 := Lib.hid HTW.out.top
      obtain ⟨y, hy⟩ : ∃ y, p k = y := ⟨_, rfl⟩
      have HY := Lib.hid hy
      rw [hy] at HC
      clear hx hy hT1 hLb hGb
      cases y with
      | true =>
        go_wp2_with (first
          | ((with_reducible refine HC.out.mono ?_); rintro e w1 ⟨rfl, hU, hB1⟩; have HT2 := Lib.hid (HT1.out.call hU hB1); have hbx := box_ac hU HW0.out; have z1 := cellOf1 hbx; have hs1 := lt_blk1 hbx; have HT3 := Lib.hid (HT2.out.of (below_box w1 (oAc x))); have HRW : Hid (RW ac (w1.alloc (oAc x)) (w1.heap.size + 1) (some ⟨w1.heap.size, 0, none⟩) [x]) := Lib.hid (rw_at ac _ _ _ _ _ rfl rfl rfl); clear hU hB1 hbx)
          | (at_builtin; refine wpList_app ac rfl 32 rfl (.tmp 21) (.tmp 23) rfl w.heap.size (w1.heap.size + 1) (.slice A1 L.length c1) L [x] (some ⟨w1.heap.size, 0, none⟩) 1 1 rfl rfl rfl HT3.out.a HRW.out HL1.out HT3.out.top ?_; intro A3 c3 w3 lm HLM HO3 HS3 HB3))
        go_roundg (n - (k + 1))
        case measure => omega
        case rel => exact ⟨k + 1, A3, c3, lm, A2, c2, G, by omega, rfl, by go_num, rfl, rfl, Lib.hid (by rw [HLM.out, HL.out, go_yes HX.out HY.out]), Lib.hid (by rw [HG.out, go_no (by simp [HY.out])]), Lib.hid (HT3.out.put1 HS3.out HO3.out HB3.out)⟩
      | false =>
        go_wp2_with (first
          | ((with_reducible refine HC.out.mono ?_); rintro e w1 ⟨rfl, hU, hB1⟩; have HT2 := Lib.hid (HT1.out.call hU hB1); have hbx := box_ac hU HW0.out; have z1 := cellOf1 hbx; have hs1 := lt_blk1 hbx; have HT3 := Lib.hid (HT2.out.of (below_box w1 (oAc x))); have HRW : Hid (RW ac (w1.alloc (oAc x)) (w1.heap.size + 1) (some ⟨w1.heap.size, 0, none⟩) [x]) := Lib.hid (rw_at ac _ _ _ _ _ rfl rfl rfl); clear hU hB1 hbx)
          | (at_builtin; refine wpList_app ac rfl 32 rfl (.tmp 25) (.tmp 27) rfl w.heap.size (w1.heap.size + 1) (.slice A2 G.length c2) G [x] (some ⟨w1.heap.size, 0, none⟩) 1 1 rfl rfl rfl HT3.out.b HRW.out HL2.out HT3.out.top ?_; intro A3 c3 w3 lm HLM HO3 HS3 HB3))
        go_roundg (n - (k + 1))
        case measure => omega
        case rel => exact ⟨k + 1, A1, c1, L, A3, c3, lm, by omega, rfl, by go_num, rfl, rfl, Lib.hid (by rw [HL.out, go_no HY.out]), Lib.hid (by rw [HLM.out, HG.out, go_yes HX.out (by simp [HY.out])]), Lib.hid (HT3.out.put2 HS3.out HO3.out HB3.out)⟩
    · have hlt' : decide ((k : Int) < n) = false := by simp; omega
      have hkn : k = n := by omega
      subst hkn
      go_wp2
      go_ret2
      have e1 := HL.out; have e2 := HG.out
      subst e1; subst e2
      exact ⟨A1, c1, A2, c2, rfl, HTW⟩

set_option maxRecDepth 20000 in
set_option maxHeartbeats 4000000 in
theorem part_di {w : World} {B p1 q : Nat} {A : Option Addr} {l : List Ac} {n c : Nat} (p : Nat → Bool) (wk : Nat → World) (h0 : wk 0 = w) (hn : l.length = n) (hl : (n : Int) ≤ 100000) (hr : ∀ k, RW ac (wk k) B A l) (hB : B ≤ w.heap.size)
    (hd : ∀ V k x, Below w.heap.size (wk k) V → w.heap.size ≤ V.heap.size → l[k]? = some x → Calls Try.prog 39 #[.int .i64 (k : Int), acv x, pt p1, pt q] V fun e w' => e = .returned (.bool (p k)) ∧ Up w.heap.size V w' ∧ Below w.heap.size (wk (k + 1)) w') :
    Calls Try.prog 37 #[.slice A n c, .func (.func 39) #[] #[pt p1, pt q]] w (PrA w (wk n) (goS p l n) (goS (fun i => !p i) l n)) := by
  have HD := Lib.hid hd; have HR := Lib.hid hr; have HK := Lib.hid hn; have HB := Lib.hid hB
  have HS0 : Hid (Two ac ac (wk 0) w w.heap.size (.slice none 0 0) (.slice none 0 0) [] []) := Lib.hid (by rw [h0]; exact Two.start ac ac (Below.refl _ _) (Nat.le_refl _))
  clear hd hr hn hB
  go_enter Try.func37, Try.ntmps37
  go_wp2
  clear h0
  go_loopg [6, 7, 12] n (fun gh s6 s7 s12 wr => ∃ (k : Nat) (A1 : Option Addr) (c1 : Nat) (L : List Ac) (A2 : Option Addr) (c2 : Nat) (G : List Ac), k ≤ n ∧ gh = n - k ∧ s12 = .int .i64 k ∧ s6 = .slice A1 L.length c1 ∧ s7 = .slice A2 G.length c2 ∧ Hid (L = goS p l k) ∧ Hid (G = goS (fun i => !p i) l k) ∧ Hid (Two ac ac (wk k) wr w.heap.size (.slice A1 L.length c1) (.slice A2 G.length c2) L G))
  case atStart => exact ⟨0, none, 0, [], none, 0, [], by omega, rfl, rfl, rfl, rfl, Lib.hid rfl, Lib.hid rfl, HS0⟩
  case round =>
    obtain ⟨k, A1, c1, L, A2, c2, G, hk, rfl, rfl, rfl, rfl, HL, HG, HTW⟩ := hrel
    by_cases hlt : k < n
    · obtain ⟨x, hx⟩ : ∃ x, l[k]? = some x := ⟨_, List.getElem?_eq_getElem (by rw [HK.out]; exact hlt)⟩
      obtain ⟨b, off, hA, hpl, d0, d1, d2, d3, d4, d5⟩ := rowAc (HR.out k) hx HTW.out.below HB.out
      subst hA
      have HX := Lib.hid hx
      have hlt' : (k : Int) < n := by omega
      have HA1 : Hid (Below wr.heap.size wr (wr.alloc (oAc x))) := Lib.hid (below_box _ _)
      have hT1 := HTW.out.of HA1.out
      have HC := Lib.hid (HD.out (wr.alloc (oAc x)) k x hT1.below hT1.top hx)
      have HT1 := Lib.hid hT1
      have hLb : L.length ≤ k := by rw [HL.out]; exact go_le _ _ _
      have hGb : G.length ≤ k := by rw [HG.out]; exact go_le _ _ _
      have HL1 : Hid (L.length + [x].length ≤ 1000000) := Lib.hid (by simp; omega)
      have HL2 : Hid (G.length + [x].length ≤ 1000000) := Lib.hid (by simp; omega)
      have HW0 := Lib.hid HTW.out.top
      obtain ⟨y, hy⟩ : ∃ y, p k = y := ⟨_, rfl⟩
      have HY := Lib.hid hy
      rw [hy] at HC
      clear hx hy hT1 hLb hGb
      cases y with
      | true =>
        go_wp2_with (first
          | ((with_reducible refine HC.out.mono ?_); rintro e w1 ⟨rfl, hU, hB1⟩; have HT2 := Lib.hid (HT1.out.call hU hB1); have hbx := box_ac hU HW0.out; have z1 := cellOf1 hbx; have hs1 := lt_blk1 hbx; have HT3 := Lib.hid (HT2.out.of (below_box w1 (oAc x))); have HRW : Hid (RW ac (w1.alloc (oAc x)) (w1.heap.size + 1) (some ⟨w1.heap.size, 0, none⟩) [x]) := Lib.hid (rw_at ac _ _ _ _ _ rfl rfl rfl); clear hU hB1 hbx)
          | (at_builtin; refine wpList_app ac rfl 32 rfl (.tmp 21) (.tmp 23) rfl w.heap.size (w1.heap.size + 1) (.slice A1 L.length c1) L [x] (some ⟨w1.heap.size, 0, none⟩) 1 1 rfl rfl rfl HT3.out.a HRW.out HL1.out HT3.out.top ?_; intro A3 c3 w3 lm HLM HO3 HS3 HB3))
        go_roundg (n - (k + 1))
        case measure => omega
        case rel => exact ⟨k + 1, A3, c3, lm, A2, c2, G, by omega, rfl, by go_num, rfl, rfl, Lib.hid (by rw [HLM.out, HL.out, go_yes HX.out HY.out]), Lib.hid (by rw [HG.out, go_no (by simp [HY.out])]), Lib.hid (HT3.out.put1 HS3.out HO3.out HB3.out)⟩
      | false =>
        go_wp2_with (first
          | ((with_reducible refine HC.out.mono ?_); rintro e w1 ⟨rfl, hU, hB1⟩; have HT2 := Lib.hid (HT1.out.call hU hB1); have hbx := box_ac hU HW0.out; have z1 := cellOf1 hbx; have hs1 := lt_blk1 hbx; have HT3 := Lib.hid (HT2.out.of (below_box w1 (oAc x))); have HRW : Hid (RW ac (w1.alloc (oAc x)) (w1.heap.size + 1) (some ⟨w1.heap.size, 0, none⟩) [x]) := Lib.hid (rw_at ac _ _ _ _ _ rfl rfl rfl); clear hU hB1 hbx)
          | (at_builtin; refine wpList_app ac rfl 32 rfl (.tmp 25) (.tmp 27) rfl w.heap.size (w1.heap.size + 1) (.slice A2 G.length c2) G [x] (some ⟨w1.heap.size, 0, none⟩) 1 1 rfl rfl rfl HT3.out.b HRW.out HL2.out HT3.out.top ?_; intro A3 c3 w3 lm HLM HO3 HS3 HB3))
        go_roundg (n - (k + 1))
        case measure => omega
        case rel => exact ⟨k + 1, A1, c1, L, A3, c3, lm, by omega, rfl, by go_num, rfl, rfl, Lib.hid (by rw [HL.out, go_no HY.out]), Lib.hid (by rw [HLM.out, HG.out, go_yes HX.out (by simp [HY.out])]), Lib.hid (HT3.out.put2 HS3.out HO3.out HB3.out)⟩
    · have hlt' : decide ((k : Int) < n) = false := by simp; omega
      have hkn : k = n := by omega
      subst hkn
      go_wp2
      go_ret2
      have e1 := HL.out; have e2 := HG.out
      subst e1; subst e2
      exact ⟨A1, c1, A2, c2, rfl, HTW⟩

set_option maxRecDepth 20000 in
set_option maxHeartbeats 4000000 in
theorem part_ta {w : World} {B q : Nat} {A : Option Addr} {l : List Ac} {n c : Nat} (p : Nat → Bool) (wk : Nat → World) (h0 : wk 0 = w) (hn : l.length = n) (hl : (n : Int) ≤ 100000) (hr : ∀ k, RW ac (wk k) B A l) (hB : B ≤ w.heap.size)
    (hd : ∀ V k x, Below w.heap.size (wk k) V → w.heap.size ≤ V.heap.size → l[k]? = some x → Calls Try.prog 44 #[.int .i64 (k : Int), acv x, pt q] V fun e w' => e = .returned (.bool (p k)) ∧ Up w.heap.size V w' ∧ Below w.heap.size (wk (k + 1)) w') :
    Calls Try.prog 37 #[.slice A n c, .func (.func 44) #[] #[pt q]] w (PrA w (wk n) (goS p l n) (goS (fun i => !p i) l n)) := by
  have HD := Lib.hid hd; have HR := Lib.hid hr; have HK := Lib.hid hn; have HB := Lib.hid hB
  have HS0 : Hid (Two ac ac (wk 0) w w.heap.size (.slice none 0 0) (.slice none 0 0) [] []) := Lib.hid (by rw [h0]; exact Two.start ac ac (Below.refl _ _) (Nat.le_refl _))
  clear hd hr hn hB
  go_enter Try.func37, Try.ntmps37
  go_wp2
  clear h0
  go_loopg [6, 7, 12] n (fun gh s6 s7 s12 wr => ∃ (k : Nat) (A1 : Option Addr) (c1 : Nat) (L : List Ac) (A2 : Option Addr) (c2 : Nat) (G : List Ac), k ≤ n ∧ gh = n - k ∧ s12 = .int .i64 k ∧ s6 = .slice A1 L.length c1 ∧ s7 = .slice A2 G.length c2 ∧ Hid (L = goS p l k) ∧ Hid (G = goS (fun i => !p i) l k) ∧ Hid (Two ac ac (wk k) wr w.heap.size (.slice A1 L.length c1) (.slice A2 G.length c2) L G))
  case atStart => exact ⟨0, none, 0, [], none, 0, [], by omega, rfl, rfl, rfl, rfl, Lib.hid rfl, Lib.hid rfl, HS0⟩
  case round =>
    obtain ⟨k, A1, c1, L, A2, c2, G, hk, rfl, rfl, rfl, rfl, HL, HG, HTW⟩ := hrel
    by_cases hlt : k < n
    · obtain ⟨x, hx⟩ : ∃ x, l[k]? = some x := ⟨_, List.getElem?_eq_getElem (by rw [HK.out]; exact hlt)⟩
      obtain ⟨b, off, hA, hpl, d0, d1, d2, d3, d4, d5⟩ := rowAc (HR.out k) hx HTW.out.below HB.out
      subst hA
      have HX := Lib.hid hx
      have hlt' : (k : Int) < n := by omega
      have HA1 : Hid (Below wr.heap.size wr (wr.alloc (oAc x))) := Lib.hid (below_box _ _)
      have hT1 := HTW.out.of HA1.out
      have HC := Lib.hid (HD.out (wr.alloc (oAc x)) k x hT1.below hT1.top hx)
      have HT1 := Lib.hid hT1
      have hLb : L.length ≤ k := by rw [HL.out]; exact go_le _ _ _
      have hGb : G.length ≤ k := by rw [HG.out]; exact go_le _ _ _
      have HL1 : Hid (L.length + [x].length ≤ 1000000) := Lib.hid (by simp; omega)
      have HL2 : Hid (G.length + [x].length ≤ 1000000) := Lib.hid (by simp; omega)
      have HW0 := Lib.hid HTW.out.top
      obtain ⟨y, hy⟩ : ∃ y, p k = y := ⟨_, rfl⟩
      have HY := Lib.hid hy
      rw [hy] at HC
      clear hx hy hT1 hLb hGb
      cases y with
      | true =>
        go_wp2_with (first
          | ((with_reducible refine HC.out.mono ?_); rintro e w1 ⟨rfl, hU, hB1⟩; have HT2 := Lib.hid (HT1.out.call hU hB1); have hbx := box_ac hU HW0.out; have z1 := cellOf1 hbx; have hs1 := lt_blk1 hbx; have HT3 := Lib.hid (HT2.out.of (below_box w1 (oAc x))); have HRW : Hid (RW ac (w1.alloc (oAc x)) (w1.heap.size + 1) (some ⟨w1.heap.size, 0, none⟩) [x]) := Lib.hid (rw_at ac _ _ _ _ _ rfl rfl rfl); clear hU hB1 hbx)
          | (at_builtin; refine wpList_app ac rfl 32 rfl (.tmp 21) (.tmp 23) rfl w.heap.size (w1.heap.size + 1) (.slice A1 L.length c1) L [x] (some ⟨w1.heap.size, 0, none⟩) 1 1 rfl rfl rfl HT3.out.a HRW.out HL1.out HT3.out.top ?_; intro A3 c3 w3 lm HLM HO3 HS3 HB3))
        go_roundg (n - (k + 1))
        case measure => omega
        case rel => exact ⟨k + 1, A3, c3, lm, A2, c2, G, by omega, rfl, by go_num, rfl, rfl, Lib.hid (by rw [HLM.out, HL.out, go_yes HX.out HY.out]), Lib.hid (by rw [HG.out, go_no (by simp [HY.out])]), Lib.hid (HT3.out.put1 HS3.out HO3.out HB3.out)⟩
      | false =>
        go_wp2_with (first
          | ((with_reducible refine HC.out.mono ?_); rintro e w1 ⟨rfl, hU, hB1⟩; have HT2 := Lib.hid (HT1.out.call hU hB1); have hbx := box_ac hU HW0.out; have z1 := cellOf1 hbx; have hs1 := lt_blk1 hbx; have HT3 := Lib.hid (HT2.out.of (below_box w1 (oAc x))); have HRW : Hid (RW ac (w1.alloc (oAc x)) (w1.heap.size + 1) (some ⟨w1.heap.size, 0, none⟩) [x]) := Lib.hid (rw_at ac _ _ _ _ _ rfl rfl rfl); clear hU hB1 hbx)
          | (at_builtin; refine wpList_app ac rfl 32 rfl (.tmp 25) (.tmp 27) rfl w.heap.size (w1.heap.size + 1) (.slice A2 G.length c2) G [x] (some ⟨w1.heap.size, 0, none⟩) 1 1 rfl rfl rfl HT3.out.b HRW.out HL2.out HT3.out.top ?_; intro A3 c3 w3 lm HLM HO3 HS3 HB3))
        go_roundg (n - (k + 1))
        case measure => omega
        case rel => exact ⟨k + 1, A1, c1, L, A3, c3, lm, by omega, rfl, by go_num, rfl, rfl, Lib.hid (by rw [HL.out, go_no HY.out]), Lib.hid (by rw [HLM.out, HG.out, go_yes HX.out (by simp [HY.out])]), Lib.hid (HT3.out.put2 HS3.out HO3.out HB3.out)⟩
    · have hlt' : decide ((k : Int) < n) = false := by simp; omega
      have hkn : k = n := by omega
      subst hkn
      go_wp2
      go_ret2
      have e1 := HL.out; have e2 := HG.out
      subst e1; subst e2
      exact ⟨A1, c1, A2, c2, rfl, HTW⟩

/-! ### Expire -/
theorem expire1_any (x : Ac) (k now : Int) (q : Nat) (w : World) (hq : w.cell? ⟨q, 0, none⟩ = some (.int .i64 now)) :
    Calls Try.prog 38 #[.int .i64 k, acv x, pt q] w fun e w' => e = .returned (.bool (decide (now < x.untl))) ∧ Below w.heap.size w w' := by
  have hb := below_box w (oAc x)
  have hql := World.block_lt_of_cell? w _ hq
  simp only at hql
  go_enter Try.func38, Try.ntmps38
  go_wp2
  go_ret
  exact ⟨rfl, hb⟩
/-- What Expire, Dispel leave: two rows of its own. -/
def DuA (w : World) (L1 L2 : List Ac) (e : Ending) (w' : World) : Prop :=
  ∃ (A1 : Option Addr) (c1 : Nat) (A2 : Option Addr) (c2 : Nat), e = .returned (.tuple #[.slice A1 L1.length c1, .slice A2 L2.length c2]) ∧ Hid (Two ac ac w w' w.heap.size (.slice A1 L1.length c1) (.slice A2 L2.length c2) L1 L2)
theorem Two.base {α β : Type} {E : El α} {F : El β} {w0 w1 V : World} {base base' : Nat} {v u : Value} {l : List α} {m : List β} (h : Two E F w0 V base v u l m) (hb : base' ≤ base) (hw : Below base' w1 w0) : Two E F w1 V base' v u l m :=
  ⟨h.a.mono hb, h.b.mono hb, h.ne, hw.trans (h.below.mono hb), Nat.le_trans hb h.top⟩
theorem expire_any {w : World} {B : Nat} {A : Option Addr} {l : List Ac} {n c : Nat} (now : Int) (hn : l.length = n) (hl : (n : Int) ≤ 100000) (hr : RW ac w B A l) (hB : B ≤ w.heap.size) :
    Calls Try.prog 11 #[.slice A n c, .int .i64 now] w (DuA w (goS (exP l now) l n) (goS (fun i => !exP l now i) l n)) := by
  have hb := below_box w (.cells #[.int .i64 now] 3)
  have hn1 := heap_alloc_new w (.cells #[.int .i64 now] 3)
  have HP := Lib.hid (part_ex (q := w.heap.size) (w := w.alloc (.cells #[.int .i64 now] 3)) (c := c) (exP l now) (fun _ => w.alloc (.cells #[.int .i64 now] 3)) rfl hn hl (fun _ => hr.below hb hB) (Nat.le_trans hB hb.size) (fun V k x hV _ hx => by
    have z := blk_cell hn1 hV (by simp) 0
    exact (expire1_any x k now _ V z).mono fun e w' h => ⟨by rw [h.1, ex_at hx], Up.of h.2, hV.trans (h.2.mono hV.size)⟩))
  have HX := Lib.hid hb
  clear hr hn hn1 hb
  go_enter Try.func11, Try.ntmps11
  go_wp2_with ((with_reducible refine HP.out.mono ?_); rintro e w1 ⟨A1, c1, A2, c2, rfl, HT⟩)
  go_ret2
  exact ⟨A1, c1, A2, c2, rfl, Lib.hid (HT.out.base HX.out.size HX.out)⟩

/-! ### Dispel -/
/-- What one call of the closure leaves: the number turned, nothing else. -/
def SetN (q : Nat) (m : Int) (V w' : World) : Prop := V.heap.size ≤ w'.heap.size ∧ Below V.heap.size (V.setCell ⟨q, 0, none⟩ (.int .i64 m)) w'
theorem set_same {V : World} {q : Nat} {m : Int} (h : V.heap[q]? = some (.cells #[.int .i64 m] 3)) : V.setCell ⟨q, 0, none⟩ (.int .i64 m) = V := by
  have hlt := lt_blk1 h
  have e : ∀ k : Nat, (V.setCell ⟨q, 0, none⟩ (.int .i64 m)).heap[k]? = V.heap[k]? := by
    intro k
    by_cases hk : k = q
    · subst hk
      simp only [World.setCell, Array.getElem?_modify, h]
      simp
    · exact Below.heap_setCell V _ _ k hk
  have e2 : (V.setCell ⟨q, 0, none⟩ (.int .i64 m)).heap = V.heap := Array.ext_getElem? e
  cases V
  simp only [World.setCell] at e2 ⊢
  rw [e2]
theorem below_set2 {N : Nat} {a b : World} {p : Addr} {u : Value} (h : Below N a b) : Below N (a.setCell p u) (b.setCell p u) := by
  refine ⟨h.os, h.tape, h.output, by simp [World.setCell]; exact h.size, fun k hk => ?_⟩
  simp only [World.setCell, Array.getElem?_modify]
  rw [h.block k hk]
set_option maxRecDepth 20000 in
set_option maxHeartbeats 4000000 in
theorem dispel1_any {w : World} {c : Cn} (x : Ac) (k m : Int) (p q : Nat) (hA : AuC c w) (hm : Fits m) (hp : w.heap[p]? = some (oCn c)) (hq : w.heap[q]? = some (.cells #[.int .i64 m] 3)) (y : Bool) (m' : Int)
    (hy : (m < 1 ∧ y = true ∧ m = m') ∨ (¬ m < 1 ∧ hmP c.au x = false ∧ y = true ∧ m = m') ∨ (¬ m < 1 ∧ hmP c.au x = true ∧ y = false ∧ m' = m - 1)) :
    Calls Try.prog 39 #[.int .i64 k, acv x, pt p, pt q] w fun e w' => e = .returned (.bool y) ∧ SetN q m' w w' := by
  have hX := below_box w (oAc x)
  have hpl := lt_blk1 hp
  have hql := lt_blk1 hq
  have hpq : p ≠ q := by rintro rfl; rw [hp] at hq; simp at hq
  have z0 := cellOf1 hp
  obtain ⟨a, ha⟩ : ∃ a, lkA c.au x.aura = a := ⟨_, rfl⟩
  obtain ⟨u, hu⟩ : ∃ u, lkB c.au x.aura = u := ⟨_, rfl⟩
  have hh : hmP c.au x = (u && a.harm) := by unfold hmP; rw [ha, hu]
  have HC := Lib.hid (hA _ hX x.aura)
  rw [ha, hu] at HC
  rw [hh] at hy
  have HX := Lib.hid hX; have HQ := Lib.hid hq
  have HSq : Hid (∀ w1, Below w.heap.size w w1 → SetN q m w w1) := Lib.hid (fun w1 h => ⟨h.size, by rw [set_same hq]; exact h⟩)
  clear hA hX hp ha hu hh hq
  go_enter Try.func39, Try.ntmps39
  rcases hy with ⟨h1, rfl, rfl⟩ | ⟨h1, h2, rfl, rfl⟩ | ⟨h1, h2, rfl, rfl⟩
  · go_wp2_with (first | ((with_reducible refine HC.out.mono ?_); rintro e w1 ⟨rfl, hB1⟩; have hV1 : Below w.heap.size w w1 := HX.out.trans (hB1.mono HX.out.size); have hz1 := hV1.size; have z1 := blk_cell HQ.out hV1 hql; have hq1 : q < w1.heap.size := Nat.lt_of_lt_of_le hql hz1))
    go_ret
    exact ⟨rfl, HSq.out _ (by go_grown)⟩
  · have h1' : decide (m < 1) = false := by simpa using h1
    clear h1
    cases u with
    | false =>
      clear h2
      go_wp2_with (first | ((with_reducible refine HC.out.mono ?_); rintro e w1 ⟨rfl, hB1⟩; have hV1 : Below w.heap.size w w1 := HX.out.trans (hB1.mono HX.out.size); have hz1 := hV1.size; have z1 := blk_cell HQ.out hV1 hql; have hq1 : q < w1.heap.size := Nat.lt_of_lt_of_le hql hz1))
      go_ret
      exact ⟨rfl, HSq.out _ (by go_grown)⟩
    | true =>
      have h2' : a.harm = false := by simpa using h2
      clear h2
      go_wp2_with (first | ((with_reducible refine HC.out.mono ?_); rintro e w1 ⟨rfl, hB1⟩; have hV1 : Below w.heap.size w w1 := HX.out.trans (hB1.mono HX.out.size); have hz1 := hV1.size; have z1 := blk_cell HQ.out hV1 hql; have hq1 : q < w1.heap.size := Nat.lt_of_lt_of_le hql hz1))
      go_ret
      exact ⟨rfl, HSq.out _ (by go_grown)⟩
  · have h1' : decide (m < 1) = false := by simpa using h1
    obtain ⟨rfl, h3⟩ : u = true ∧ a.harm = true := by simpa using h2
    have hm1 : IntKind.i64.wrap (m - 1) = m - 1 := IntWalk.i64_in (m - 1) (by unfold Fits at hm; omega)
    clear h1 h2
    go_wp2_with (first | ((with_reducible refine HC.out.mono ?_); rintro e w1 ⟨rfl, hB1⟩; have hV1 : Below w.heap.size w w1 := HX.out.trans (hB1.mono HX.out.size); have hz1 := hV1.size; have z1 := blk_cell HQ.out hV1 hql; have hq1 : q < w1.heap.size := Nat.lt_of_lt_of_le hql hz1; have y1 := blk_froz HQ.out hV1 hql))
    go_ret
    exact ⟨rfl, by simp [World.setCell]; omega, (below_set2 hV1).alloc (by simp [World.setCell]; exact hz1) _⟩
theorem set_twice (V : World) (q : Nat) (m m' : Int) : ((V.setCell ⟨q, 0, none⟩ (.int .i64 m)).setCell ⟨q, 0, none⟩ (.int .i64 m')) = V.setCell ⟨q, 0, none⟩ (.int .i64 m') := by
  have e : ∀ k : Nat, ((V.setCell ⟨q, 0, none⟩ (.int .i64 m)).setCell ⟨q, 0, none⟩ (.int .i64 m')).heap[k]? = (V.setCell ⟨q, 0, none⟩ (.int .i64 m')).heap[k]? := by
    intro k
    simp only [World.setCell, Array.getElem?_modify]
    by_cases hk : q = k
    · subst hk
      simp only [if_true]
      cases V.heap[q]? with
      | none => rfl
      | some o => cases o <;> simp
    · simp only [hk, if_false]
  have e2 := Array.ext_getElem? e
  simp only [World.setCell] at e2 ⊢
  rw [e2]
theorem dispel_any {w : World} {B : Nat} {c : Cn} {A : Option Addr} {l : List Ac} {k cp : Nat} (n : Int) (hA : AuC c w) (hn : l.length = k) (hl : (k : Int) ≤ 100000) (hr : RW ac w B A l) (hB : B ≤ w.heap.size) (hf : Fits n) :
    Calls Try.prog 16 #[cnv c, .slice A k cp, .int .i64 n] w (DuA w (goS (diP c.au n l) l k) (goS (fun i => !diP c.au n l i) l k)) := by
  have hb : Below w.heap.size w ((w.alloc (oCn c)).alloc (.cells #[.int .i64 n] 3)) := by go_grown
  have hn1 : ((w.alloc (oCn c)).alloc (.cells #[.int .i64 n] 3)).heap[w.heap.size]? = some (oCn c) := (Below.heap_alloc _ _ _ (by simp)).trans (heap_alloc_new w _)
  have hn2 : ((w.alloc (oCn c)).alloc (.cells #[.int .i64 n] 3)).heap[w.heap.size + 1]? = some (.cells #[.int .i64 n] 3) := by have := heap_alloc_new (w.alloc (oCn c)) (.cells #[.int .i64 n] 3); simpa using this
  have hsz : ((w.alloc (oCn c)).alloc (.cells #[.int .i64 n] 3)).heap.size = w.heap.size + 1 + 1 := by simp
  have hA1 := hA.of hb
  generalize hWg : (w.alloc (oCn c)).alloc (.cells #[.int .i64 n] 3) = W at hb hn1 hn2 hsz hA1
  have hwk0 : ∀ m, (W.setCell ⟨w.heap.size + 1, 0, none⟩ (.int .i64 m)).heap.size = W.heap.size := fun m => by simp [World.setCell]
  have hwkB : ∀ m, Below w.heap.size w (W.setCell ⟨w.heap.size + 1, 0, none⟩ (.int .i64 m)) := fun m => hb.setCell (p := ⟨w.heap.size + 1, 0, none⟩) (by show w.heap.size ≤ w.heap.size + 1; omega) _
  have hwkC : ∀ m, (W.setCell ⟨w.heap.size + 1, 0, none⟩ (.int .i64 m)).heap[w.heap.size]? = some (oCn c) := fun m => (Below.heap_setCell W _ _ _ (by show w.heap.size ≠ w.heap.size + 1; omega)).trans hn1
  have hwkN : ∀ m, (W.setCell ⟨w.heap.size + 1, 0, none⟩ (.int .i64 m)).heap[w.heap.size + 1]? = some (.cells #[.int .i64 m] 3) := fun m => by
    simp only [World.setCell, Array.getElem?_modify, hn2]; simp
  have HP := Lib.hid (part_di (p1 := w.heap.size) (q := w.heap.size + 1) (w := W) (c := cp) (diP c.au n l) (fun k => W.setCell ⟨w.heap.size + 1, 0, none⟩ (.int .i64 (diM c.au n l k))) (by show W.setCell _ (.int .i64 (diM c.au n l 0)) = W; rw [di_zero]; exact set_same hn2) hn hl (fun k => hr.below (hwkB _) hB) (Nat.le_trans hB hb.size) (fun V k x hV hVs hx => by
    have hlt0 : w.heap.size < W.heap.size := by omega
    have hlt1 : w.heap.size + 1 < W.heap.size := by omega
    have hcb := hkeep1 hV hlt0 (hwkC _)
    have hnb := hkeep1 hV hlt1 (hwkN _)
    have hAV : AuC c V := fun U hU id => hA U ((hwkB (diM c.au n l k)).trans ((hV.mono (by omega)).trans (hU.mono (by omega)))) id
    have hy : (diM c.au n l k < 1 ∧ diP c.au n l k = true ∧ diM c.au n l k = diM c.au n l (k + 1)) ∨ (¬ diM c.au n l k < 1 ∧ hmP c.au x = false ∧ diP c.au n l k = true ∧ diM c.au n l k = diM c.au n l (k + 1)) ∨ (¬ diM c.au n l k < 1 ∧ hmP c.au x = true ∧ diP c.au n l k = false ∧ diM c.au n l (k + 1) = diM c.au n l k - 1) := by
      by_cases h1 : diM c.au n l k < 1
      · exact .inl ⟨h1, (di_low h1).1, (di_low h1).2.symm⟩
      · cases h2 : hmP c.au x with
        | false => exact .inr (.inl ⟨h1, rfl, (di_mild hx h2).1, (di_mild hx h2).2.symm⟩)
        | true => exact .inr (.inr ⟨h1, rfl, (di_take hx h2 h1).1, (di_take hx h2 h1).2⟩)
    refine (dispel1_any x k _ _ _ hAV (di_fits hf) hcb hnb _ _ hy).mono fun e w' h => ⟨h.1, ?_, ?_⟩
    · refine ⟨h.2.1, fun b hb1 hb2 => ?_⟩
      rw [h.2.2.block b hb2]
      exact Below.heap_setCell V _ _ _ (by show b ≠ w.heap.size + 1; omega)
    · have e1 : ((W.setCell ⟨w.heap.size + 1, 0, none⟩ (.int .i64 (diM c.au n l k))).setCell ⟨w.heap.size + 1, 0, none⟩ (.int .i64 (diM c.au n l (k + 1)))) = W.setCell ⟨w.heap.size + 1, 0, none⟩ (.int .i64 (diM c.au n l (k + 1))) := set_twice _ _ _ _
      have h3 := below_set2 (p := ⟨w.heap.size + 1, 0, none⟩) (u := .int .i64 (diM c.au n l (k + 1))) hV
      rw [e1] at h3
      exact h3.trans (h.2.2.mono hVs)))
  have HX := Lib.hid (hwkB (diM c.au n l k)); have HXs := Lib.hid hb.size
  have HW := Lib.hid hWg
  clear hr hn hn1 hn2 hsz hA hA1 hwk0 hwkB hwkC hwkN hb hWg
  rw [← HW.out] at HP
  have HX2 := Lib.hid (HX.out); rw [← HW.out] at HX2 HXs
  go_enter Try.func16, Try.ntmps16
  go_wp2_with ((with_reducible refine HP.out.mono ?_); rintro e w1 ⟨A1, c1, A2, c2, rfl, HT⟩)
  go_ret2
  exact ⟨A1, c1, A2, c2, rfl, Lib.hid (HT.out.base HXs.out HX2.out)⟩
end Go.Proofs.Ytijobbdgiaiocaa.Con
