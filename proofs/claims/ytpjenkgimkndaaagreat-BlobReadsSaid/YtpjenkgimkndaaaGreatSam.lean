/-
  Contracts of the program's Same, of sameAbility, sameFoe, sameGrid and of slices.EqualFunc over them: alike just where all but addresses is one.
-/
import Derived.Test.YtpjenkgimkndaaaGreatEql
import Derived.Test.YtpjenkgimkndaaaGreatChk
namespace Go.Proofs.YtpjenkgimkndaaaGreat.Con
open Go.RowKit Go.Maps

theorem eqlb_ef {w : World} {B : Nat} {A A' : Option Addr} {a b : List Ef} {n m c c' : Nat} (ha : RW ef w B A a) (hb : RW ef w B A' b) (hB : B ≤ w.heap.size) (hna : a.length = n) (hnb : b.length = m) (hl : (n : Int) ≤ 100000) (x : Bool) (hx : x = true ↔ a = b) :
    Calls Tryz.prog 93 #[.slice A n c, .slice A' m c'] w fun e w' => e = .returned (.bool x) ∧ Below w.heap.size w w' :=
  (eqls_ef ha hb hB hna hnb hl x hx).mono fun e w' h => ⟨h.1, by obtain ⟨k, hk⟩ := h.2; rw [hk]; exact below_drewN (Below.refl _ _) k⟩
theorem eqlb_ln {w : World} {B : Nat} {A A' : Option Addr} {a b : List Ln} {n m c c' : Nat} (ha : RW ln w B A a) (hb : RW ln w B A' b) (hB : B ≤ w.heap.size) (hna : a.length = n) (hnb : b.length = m) (hl : (n : Int) ≤ 100000) (x : Bool) (hx : x = true ↔ a = b) :
    Calls Tryz.prog 94 #[.slice A n c, .slice A' m c'] w fun e w' => e = .returned (.bool x) ∧ Below w.heap.size w w' :=
  (eqls_ln ha hb hB hna hnb hl x hx).mono fun e w' h => ⟨h.1, by obtain ⟨k, hk⟩ := h.2; rw [hk]; exact below_drewN (Below.refl _ _) k⟩
theorem eqlb_pz {w : World} {B : Nat} {A A' : Option Addr} {a b : List Pz} {n m c c' : Nat} (ha : RW pz w B A a) (hb : RW pz w B A' b) (hB : B ≤ w.heap.size) (hna : a.length = n) (hnb : b.length = m) (hl : (n : Int) ≤ 100000) (x : Bool) (hx : x = true ↔ a = b) :
    Calls Tryz.prog 95 #[.slice A n c, .slice A' m c'] w fun e w' => e = .returned (.bool x) ∧ Below w.heap.size w w' :=
  (eqls_pz ha hb hB hna hnb hl x hx).mono fun e w' h => ⟨h.1, by obtain ⟨k, hk⟩ := h.2; rw [hk]; exact below_drewN (Below.refl _ _) k⟩
theorem eqlb_au {w : World} {B : Nat} {A A' : Option Addr} {a b : List Au} {n m c c' : Nat} (ha : RW au w B A a) (hb : RW au w B A' b) (hB : B ≤ w.heap.size) (hna : a.length = n) (hnb : b.length = m) (hl : (n : Int) ≤ 100000) (x : Bool) (hx : x = true ↔ a = b) :
    Calls Tryz.prog 50 #[.slice A n c, .slice A' m c'] w fun e w' => e = .returned (.bool x) ∧ Below w.heap.size w w' :=
  (eqls_au ha hb hB hna hnb hl x hx).mono fun e w' h => ⟨h.1, by obtain ⟨k, hk⟩ := h.2; rw [hk]; exact below_drewN (Below.refl _ _) k⟩
theorem eqlb_bo {w : World} {B : Nat} {A A' : Option Addr} {a b : List Bool} {n m c c' : Nat} (ha : RB w B A a) (hb : RB w B A' b) (hB : B ≤ w.heap.size) (hna : a.length = n) (hnb : b.length = m) (hl : (n : Int) ≤ 100000) (x : Bool) (hx : x = true ↔ a = b) :
    Calls Tryz.prog 96 #[.slice A n c, .slice A' m c'] w fun e w' => e = .returned (.bool x) ∧ Below w.heap.size w w' :=
  (eqls_bo ha hb hB hna hnb hl x hx).mono fun e w' h => ⟨h.1, by obtain ⟨k, hk⟩ := h.2; rw [hk]; exact below_drewN (Below.refl _ _) k⟩
theorem eql_pos (x y x' y' : Int) (e : Bool) (he : e = true ↔ x = x' ∧ y = y') (w : World) : (binOp .eql 29 (.agg #[.int .i64 x, .int .i64 y]) (.agg #[.int .i64 x', .int .i64 y'])).run Tryz.prog w = .ok (.bool e) w := by
  have key : e = ((x == x') && (y == y')) := by rw [Bool.eq_iff_iff, he]; simp
  rw [key]
  cases h0 : (x == x') with
  | false => simp [go_sem, h0]
  | true =>
    cases h1 : (y == y') with
    | false => simp [go_sem, h0, h1]
    | true => simp [go_sem, h0, h1]

set_option maxRecDepth 20000 in
set_option maxHeartbeats 8000000 in
theorem sameAb {w : World} {B : Nat} (a b : Ab) (ha : RW ef w B a.ea a.eff) (hb : RW ef w B b.ea b.eff) (hB : B ≤ w.heap.size) (hl : (a.eff.length : Int) ≤ 100000) (x : Bool) (hx : x = true ↔ a.pl = b.pl) :
    Calls Tryz.prog 49 #[abv a, abv b] w fun e w' => e = .returned (.bool x) ∧ Below w.heap.size w w' := by
  obtain ⟨x1, k1⟩ := bex (a.eff = b.eff)
  have HX := Lib.hid hx; have HA := Lib.hid ha; have HB := Lib.hid hb; have H1 := Lib.hid k1
  clear hx ha hb k1
  by_cases h0 : a.id = b.id
  · have K0 := Lib.hid h0; clear h0
    by_cases h1 : a.cast = b.cast
    · have K1 := Lib.hid h1; clear h1
      by_cases h2 : a.cool = b.cool
      · have K2 := Lib.hid h2; clear h2
        by_cases h3 : a.charges = b.charges
        · have K3 := Lib.hid h3; clear h3
          by_cases h4 : a.range = b.range
          · have K4 := Lib.hid h4; clear h4
            by_cases h5 : a.cost = b.cost
            · have K5 := Lib.hid h5; clear h5
              by_cases h6 : a.sight = b.sight
              · have K6 := Lib.hid h6; clear h6
                have r0 : (a.id == b.id) = true := (by simpa using K0.out); have r1 : (a.cast == b.cast) = true := (by simpa using K1.out); have r2 : (a.cool == b.cool) = true := (by simpa using K2.out); have r3 : (a.charges == b.charges) = true := (by simpa using K3.out); have r4 : (a.range == b.range) = true := (by simpa using K4.out); have r5 : (a.cost == b.cost) = true := (by simpa using K5.out); have r6 : (a.sight == b.sight) = true := (by simpa using K6.out)
                go_enter Tryz.func49, Tryz.ntmps49
                go_wp2_with (first
                  | ((with_reducible refine (eqlb_ef (HA.out.below (by go_grown : Below w.heap.size w _) hB) (HB.out.below (by go_grown : Below w.heap.size w _) hB) (by go_size) rfl rfl hl x1 H1.out).mono ?_); rintro e w1 ⟨rfl, hB1⟩; have hV1 := bstep hB1 (V := w) (by go_grown)))
                all_goals
                  go_ret
                  exact ⟨of_iff HX.out (by rw [Ab.pl_iff, ← H1.out]; simp [K0.out, K1.out, K2.out, K3.out, K4.out, K5.out, K6.out] <;> simp_all), by first | assumption | go_grown⟩
              · have K6 := Lib.hid h6; clear h6
                have r0 : (a.id == b.id) = true := (by simpa using K0.out); have r1 : (a.cast == b.cast) = true := (by simpa using K1.out); have r2 : (a.cool == b.cool) = true := (by simpa using K2.out); have r3 : (a.charges == b.charges) = true := (by simpa using K3.out); have r4 : (a.range == b.range) = true := (by simpa using K4.out); have r5 : (a.cost == b.cost) = true := (by simpa using K5.out)
                have r6 : (a.sight == b.sight) = false := by simpa using K6.out
                go_enter Tryz.func49, Tryz.ntmps49
                go_wp2
                go_ret
                exact ⟨of_iff HX.out (by rw [Ab.pl_iff]; simp [K6.out]), by go_grown⟩
            · have K5 := Lib.hid h5; clear h5
              have r0 : (a.id == b.id) = true := (by simpa using K0.out); have r1 : (a.cast == b.cast) = true := (by simpa using K1.out); have r2 : (a.cool == b.cool) = true := (by simpa using K2.out); have r3 : (a.charges == b.charges) = true := (by simpa using K3.out); have r4 : (a.range == b.range) = true := (by simpa using K4.out)
              have r5 : (a.cost == b.cost) = false := by simpa using K5.out
              go_enter Tryz.func49, Tryz.ntmps49
              go_wp2
              go_ret
              exact ⟨of_iff HX.out (by rw [Ab.pl_iff]; simp [K5.out]), by go_grown⟩
          · have K4 := Lib.hid h4; clear h4
            have r0 : (a.id == b.id) = true := (by simpa using K0.out); have r1 : (a.cast == b.cast) = true := (by simpa using K1.out); have r2 : (a.cool == b.cool) = true := (by simpa using K2.out); have r3 : (a.charges == b.charges) = true := (by simpa using K3.out)
            have r4 : (a.range == b.range) = false := by simpa using K4.out
            go_enter Tryz.func49, Tryz.ntmps49
            go_wp2
            go_ret
            exact ⟨of_iff HX.out (by rw [Ab.pl_iff]; simp [K4.out]), by go_grown⟩
        · have K3 := Lib.hid h3; clear h3
          have r0 : (a.id == b.id) = true := (by simpa using K0.out); have r1 : (a.cast == b.cast) = true := (by simpa using K1.out); have r2 : (a.cool == b.cool) = true := (by simpa using K2.out)
          have r3 : (a.charges == b.charges) = false := by simpa using K3.out
          go_enter Tryz.func49, Tryz.ntmps49
          go_wp2
          go_ret
          exact ⟨of_iff HX.out (by rw [Ab.pl_iff]; simp [K3.out]), by go_grown⟩
      · have K2 := Lib.hid h2; clear h2
        have r0 : (a.id == b.id) = true := (by simpa using K0.out); have r1 : (a.cast == b.cast) = true := (by simpa using K1.out)
        have r2 : (a.cool == b.cool) = false := by simpa using K2.out
        go_enter Tryz.func49, Tryz.ntmps49
        go_wp2
        go_ret
        exact ⟨of_iff HX.out (by rw [Ab.pl_iff]; simp [K2.out]), by go_grown⟩
    · have K1 := Lib.hid h1; clear h1
      have r0 : (a.id == b.id) = true := (by simpa using K0.out)
      have r1 : (a.cast == b.cast) = false := by simpa using K1.out
      go_enter Tryz.func49, Tryz.ntmps49
      go_wp2
      go_ret
      exact ⟨of_iff HX.out (by rw [Ab.pl_iff]; simp [K1.out]), by go_grown⟩
  · have K0 := Lib.hid h0; clear h0
    have r0 : (a.id == b.id) = false := by simpa using K0.out
    go_enter Tryz.func49, Tryz.ntmps49
    go_wp2
    go_ret
    exact ⟨of_iff HX.out (by rw [Ab.pl_iff]; simp [K0.out]), by go_grown⟩

set_option maxRecDepth 20000 in
set_option maxHeartbeats 8000000 in
theorem sameFo {w : World} {B : Nat} (a b : Fo) (ha : RW ln w B a.sa a.script) (hb : RW ln w B b.sa b.script) (ga : RW pz w B a.ha a.hoard) (gb : RW pz w B b.ha b.hoard) (hB : B ≤ w.heap.size) (hl : (a.script.length : Int) ≤ 100000) (hl2 : (a.hoard.length : Int) ≤ 100000) (x : Bool) (hx : x = true ↔ a.pl = b.pl) :
    Calls Tryz.prog 52 #[fov a, fov b] w fun e w' => e = .returned (.bool x) ∧ Below w.heap.size w w' := by
  obtain ⟨x1, k1⟩ := bex (a.script = b.script)
  obtain ⟨x2, k2⟩ := bex (a.hoard = b.hoard)
  have HX := Lib.hid hx; have HA := Lib.hid ha; have HB := Lib.hid hb; have H1 := Lib.hid k1; have GA := Lib.hid ga; have GB := Lib.hid gb; have H2 := Lib.hid k2
  clear hx ha hb k1 ga gb k2
  by_cases h0 : a.id = b.id
  · have K0 := Lib.hid h0; clear h0
    by_cases h1 : a.health = b.health
    · have K1 := Lib.hid h1; clear h1
      by_cases h2 : a.hit = b.hit
      · have K2 := Lib.hid h2; clear h2
        by_cases h3 : a.every = b.every
        · have K3 := Lib.hid h3; clear h3
          by_cases h4 : a.reach = b.reach
          · have K4 := Lib.hid h4; clear h4
            by_cases h5 : a.drops = b.drops
            · have K5 := Lib.hid h5; clear h5
              have r0 : (a.id == b.id) = true := (by simpa using K0.out); have r1 : (a.health == b.health) = true := (by simpa using K1.out); have r2 : (a.hit == b.hit) = true := (by simpa using K2.out); have r3 : (a.every == b.every) = true := (by simpa using K3.out); have r4 : (a.reach == b.reach) = true := (by simpa using K4.out); have r5 : (a.drops == b.drops) = true := (by simpa using K5.out)
              go_enter Tryz.func52, Tryz.ntmps52
              go_wp2_with (first
                | ((with_reducible refine (eqlb_ln (HA.out.below (by go_grown : Below w.heap.size w _) hB) (HB.out.below (by go_grown : Below w.heap.size w _) hB) (by go_size) rfl rfl hl x1 H1.out).mono ?_); rintro e w1 ⟨rfl, hB1⟩; have hV1 := bstep hB1 (V := w) (by go_grown); have g1 := fun o => hB1.cell (p := ⟨w.heap.size, o, none⟩) (by go_size); have g2 := fun o => hB1.cell (p := ⟨w.heap.size + 1, o, none⟩) (by go_size); have hs1 := hV1.size)
                | ((with_reducible refine (eqlb_pz (GA.out.below (by go_grown : Below w.heap.size w _) hB) (GB.out.below (by go_grown : Below w.heap.size w _) hB) (by go_size) rfl rfl hl2 x2 H2.out).mono ?_); rintro e w2 ⟨rfl, hB2⟩; have hV2 := bstep hB2 (V := w) hV1))
              all_goals
                go_ret
                exact ⟨of_iff HX.out (by rw [Fo.pl_iff, ← H1.out, ← H2.out]; simp [K0.out, K1.out, K2.out, K3.out, K4.out, K5.out] <;> simp_all), by first | assumption | go_grown⟩
            · have K5 := Lib.hid h5; clear h5
              have r0 : (a.id == b.id) = true := (by simpa using K0.out); have r1 : (a.health == b.health) = true := (by simpa using K1.out); have r2 : (a.hit == b.hit) = true := (by simpa using K2.out); have r3 : (a.every == b.every) = true := (by simpa using K3.out); have r4 : (a.reach == b.reach) = true := (by simpa using K4.out)
              have r5 : (a.drops == b.drops) = false := by simpa using K5.out
              go_enter Tryz.func52, Tryz.ntmps52
              go_wp2
              go_ret
              exact ⟨of_iff HX.out (by rw [Fo.pl_iff]; simp [K5.out]), by go_grown⟩
          · have K4 := Lib.hid h4; clear h4
            have r0 : (a.id == b.id) = true := (by simpa using K0.out); have r1 : (a.health == b.health) = true := (by simpa using K1.out); have r2 : (a.hit == b.hit) = true := (by simpa using K2.out); have r3 : (a.every == b.every) = true := (by simpa using K3.out)
            have r4 : (a.reach == b.reach) = false := by simpa using K4.out
            go_enter Tryz.func52, Tryz.ntmps52
            go_wp2
            go_ret
            exact ⟨of_iff HX.out (by rw [Fo.pl_iff]; simp [K4.out]), by go_grown⟩
        · have K3 := Lib.hid h3; clear h3
          have r0 : (a.id == b.id) = true := (by simpa using K0.out); have r1 : (a.health == b.health) = true := (by simpa using K1.out); have r2 : (a.hit == b.hit) = true := (by simpa using K2.out)
          have r3 : (a.every == b.every) = false := by simpa using K3.out
          go_enter Tryz.func52, Tryz.ntmps52
          go_wp2
          go_ret
          exact ⟨of_iff HX.out (by rw [Fo.pl_iff]; simp [K3.out]), by go_grown⟩
      · have K2 := Lib.hid h2; clear h2
        have r0 : (a.id == b.id) = true := (by simpa using K0.out); have r1 : (a.health == b.health) = true := (by simpa using K1.out)
        have r2 : (a.hit == b.hit) = false := by simpa using K2.out
        go_enter Tryz.func52, Tryz.ntmps52
        go_wp2
        go_ret
        exact ⟨of_iff HX.out (by rw [Fo.pl_iff]; simp [K2.out]), by go_grown⟩
    · have K1 := Lib.hid h1; clear h1
      have r0 : (a.id == b.id) = true := (by simpa using K0.out)
      have r1 : (a.health == b.health) = false := by simpa using K1.out
      go_enter Tryz.func52, Tryz.ntmps52
      go_wp2
      go_ret
      exact ⟨of_iff HX.out (by rw [Fo.pl_iff]; simp [K1.out]), by go_grown⟩
  · have K0 := Lib.hid h0; clear h0
    have r0 : (a.id == b.id) = false := by simpa using K0.out
    go_enter Tryz.func52, Tryz.ntmps52
    go_wp2
    go_ret
    exact ⟨of_iff HX.out (by rw [Fo.pl_iff]; simp [K0.out]), by go_grown⟩

set_option maxRecDepth 20000 in
set_option maxHeartbeats 4000000 in
theorem sameGr {w : World} {B : Nat} (W H W' H' : Int) (A A' : Option Addr) (a b : List Bool) (c c' : Nat) (ha : RB w B A a) (hb : RB w B A' b) (hB : B ≤ w.heap.size) (hl : (a.length : Int) ≤ 100000) (x : Bool) (hx : x = true ↔ W = W' ∧ H = H' ∧ a = b) :
    Calls Tryz.prog 53 #[gv W H A a.length c, gv W' H' A' b.length c'] w fun e w' => e = .returned (.bool x) ∧ Below w.heap.size w w' := by
  obtain ⟨x1, k1⟩ := bex (a = b)
  have HX := Lib.hid hx; have HA := Lib.hid ha; have HB := Lib.hid hb; have H1 := Lib.hid k1
  clear hx ha hb k1
  by_cases h0 : W = W'
  · have r0 : (W == W') = true := by simpa using h0
    have K0 := Lib.hid h0; clear h0
    by_cases h1 : H = H'
    · have r1 : (H == H') = true := by simpa using h1
      have K1 := Lib.hid h1; clear h1
      go_enter Tryz.func53, Tryz.ntmps53
      go_wp2_with (first | ((with_reducible refine (eqlb_bo (HA.out.below (by go_grown : Below w.heap.size w _) hB) (HB.out.below (by go_grown : Below w.heap.size w _) hB) (by go_size) rfl rfl hl x1 H1.out).mono ?_); rintro e w1 ⟨rfl, hB1⟩; have hV1 := bstep hB1 (V := w) (by go_grown)))
      go_ret
      exact ⟨of_iff HX.out (by rw [H1.out]; simp [K0.out, K1.out]), hV1⟩
    · have r1 : (H == H') = false := by simpa using h1
      have K1 := Lib.hid h1; clear h1
      go_enter Tryz.func53, Tryz.ntmps53
      go_wp2
      go_ret
      exact ⟨of_iff HX.out (by simp [K1.out]), by go_grown⟩
  · have r0 : (W == W') = false := by simpa using h0
    have K0 := Lib.hid h0; clear h0
    go_enter Tryz.func53, Tryz.ntmps53
    go_wp2
    go_ret
    exact ⟨of_iff HX.out (by simp [K0.out]), by go_grown⟩
theorem map_bad {α γ : Type} {f : α → γ} {a b : List α} {k : Nat} {s t : α} {x : Bool} (hx : x = true ↔ a.map f = b.map f) (hs : a[k]? = some s) (ht : b[k]? = some t) (h : ¬ f s = f t) : x = false := by
  cases x with
  | false => rfl
  | true => exact absurd ((map_iff.1 (hx.1 rfl)).2 k s t hs ht) h
theorem map_len {α γ : Type} {f : α → γ} {a b : List α} {x : Bool} (hx : x = true ↔ a.map f = b.map f) (hn : a.length ≠ b.length) : x = false := by
  cases x with
  | false => rfl
  | true => exact absurd ((map_iff.1 (hx.1 rfl)).1) hn
theorem map_all {α γ : Type} {f : α → γ} {a b : List α} {k : Nat} {x : Bool} (hx : x = true ↔ a.map f = b.map f) (hn : a.length = b.length) (hk : a.length ≤ k) (h : ∀ (i : Nat) s t, i < k → a[i]? = some s → b[i]? = some t → f s = f t) : x = true :=
  hx.2 (map_iff.2 ⟨hn, fun i s t hs ht => h i s t (by have := (List.getElem?_eq_some_iff.1 hs).1; omega) hs ht⟩)
theorem map_next {α γ : Type} {f : α → γ} {a b : List α} {k : Nat} {s t : α} (hs : a[k]? = some s) (ht : b[k]? = some t) (he : f s = f t) (h : ∀ (i : Nat) s t, i < k → a[i]? = some s → b[i]? = some t → f s = f t) : ∀ (i : Nat) s t, i < k + 1 → a[i]? = some s → b[i]? = some t → f s = f t := by
  intro i s' t' hi hs' ht'
  rcases Nat.lt_or_eq_of_le (Nat.le_of_lt_succ hi) with h1 | rfl
  · exact h i s' t' h1 hs' ht'
  · rw [hs] at hs'; rw [ht] at ht'; cases hs'; cases ht'; exact he

theorem eqf_len_ab {w : World} {A A' : Option Addr} {n m c c' : Nat} (hn : n ≠ m) : Calls Tryz.prog 48 #[.slice A n c, .slice A' m c', .func (.func 49) #[] #[]] w fun e w' => e = .returned (.bool false) ∧ w = w' := by
  have h1 : ((n : Int) != (m : Int)) = true := by simp; omega
  have h2 : ¬ (n : Int) = m := by omega
  go_enter Tryz.func48, Tryz.ntmps48
  go_wp2
  go_ret
  exact ⟨rfl, rfl⟩
set_option maxRecDepth 20000 in
set_option maxHeartbeats 4000000 in
theorem eqf_go_ab {w : World} {B : Nat} {A A' : Option Addr} {a b : List Ab} {n c c' : Nat} (ha : RW ab w B A a) (hb : RW ab w B A' b) (hB : B ≤ w.heap.size) (hna : a.length = n) (hnb : b.length = n) (hl : (n : Int) ≤ 100000) (hea : ∀ s ∈ a, RW ef w B s.ea s.eff ∧ (s.eff.length : Int) ≤ 100000) (heb : ∀ s ∈ b, RW ef w B s.ea s.eff) (x : Bool) (hx : x = true ↔ a.map Ab.pl = b.map Ab.pl) :
    Calls Tryz.prog 48 #[.slice A n c, .slice A' n c', .func (.func 49) #[] #[]] w fun e w' => e = .returned (.bool x) ∧ Below w.heap.size w w' := by
  have HA := Lib.hid ha; have HB := Lib.hid hb; have HX := Lib.hid hx; have HNA := Lib.hid hna; have HNB := Lib.hid hnb; have HEA := Lib.hid hea; have HEB := Lib.hid heb
  have hn1 : ((n : Int) != (n : Int)) = false := by simp
  clear ha hb hx hna hnb hea heb
  go_enter Tryz.func48, Tryz.ntmps48
  go_wp2
  go_loopg [17] n (fun m s17 wr => ∃ (k : Nat), k ≤ n ∧ m = n - k ∧ s17 = .int .i64 (k : Int) ∧ Hid (Below w.heap.size w wr) ∧ Hid (∀ (i : Nat) s t, i < k → a[i]? = some s → b[i]? = some t → Ab.pl s = Ab.pl t))
  case atStart => exact ⟨0, by omega, rfl, rfl, Lib.hid (Below.refl _ _), Lib.hid (fun i _ _ hi => by omega)⟩
  case round =>
    obtain ⟨k, hk, rfl, rfl, HW, HE⟩ := hrel
    have hbw := HW.out
    have hws := HW.out.size
    by_cases hkl : k < n
    · have hkl' : (k : Int) < n := by omega
      obtain ⟨s, hs⟩ : ∃ s, a[k]? = some s := ⟨_, List.getElem?_eq_getElem (by rw [HNA.out]; exact hkl)⟩
      obtain ⟨t, ht⟩ : ∃ t, b[k]? = some t := ⟨_, List.getElem?_eq_getElem (by rw [HNB.out]; exact hkl)⟩
      obtain ⟨p, off, hA, hpl, c0, c1, c2, c3, c4, c5, c6, c7⟩ := rowAb HA.out hs hbw hB
      obtain ⟨p', off', hA', hpl', d0, d1, d2, d3, d4, d5, d6, d7⟩ := rowAb HB.out ht hbw hB
      subst hA; subst hA'
      have hp1 : p < wr.heap.size := by omega
      have hp2 : p' < wr.heap.size := by omega
      obtain ⟨e, he⟩ := bex (Ab.pl s = Ab.pl t)
      have hsm : s ∈ a := List.mem_of_getElem? hs
      have htm : t ∈ b := List.mem_of_getElem? ht
      have hea := HEA.out; have heb := HEB.out
      have q1 := hea s hsm; have q2 := heb t htm
      have HC : Hid (∀ V, Below w.heap.size w V → Calls Tryz.prog 49 #[abv s, abv t] V fun e' w' => e' = .returned (.bool e) ∧ Below V.heap.size V w') := Lib.hid (fun V hV => sameAb s t (q1.1.below hV hB) (q2.below hV hB) (Nat.le_trans hB hV.size) q1.2 e he)
      have HS := Lib.hid hs; have HT := Lib.hid ht; have HEE := Lib.hid he
      clear hs ht he hsm htm q1 q2 hea heb
      cases e with
      | false =>
        have HF := Lib.hid (map_bad HX.out HS.out HT.out (fun h => by have := HEE.out.2 h; cases this))
        clear HEE
        go_wp2_with (first | ((with_reducible refine (HC.out _ (by go_grown)).mono ?_); rintro e' w1 ⟨rfl, hB1⟩; have hV1 := bstep hB1 (V := w) (by go_grown)))
        go_ret
        exact ⟨by rw [HF.out]; rfl, hV1⟩
      | true =>
        have HE2 := Lib.hid (map_next HS.out HT.out (HEE.out.1 rfl) HE.out)
        clear HEE
        go_wp2_with (first | ((with_reducible refine (HC.out _ (by go_grown)).mono ?_); rintro e' w1 ⟨rfl, hB1⟩; have hV1 := bstep hB1 (V := w) (by go_grown)))
        go_roundg (n - (k + 1))
        case measure => omega
        case rel => exact ⟨k + 1, by omega, rfl, by go_num, Lib.hid hV1, HE2⟩
    · have hkl' : decide ((k : Int) < n) = false := by simp; omega
      have HT := Lib.hid (map_all HX.out (by rw [HNA.out, HNB.out]) (by rw [HNA.out]; omega) HE.out)
      go_wp2
      go_ret
      exact ⟨by rw [HT.out]; rfl, hbw⟩
theorem eqf_ab {w : World} {B : Nat} {A A' : Option Addr} {a b : List Ab} {n m c c' : Nat} (ha : RW ab w B A a) (hb : RW ab w B A' b) (hB : B ≤ w.heap.size) (hna : a.length = n) (hnb : b.length = m) (hl : (n : Int) ≤ 100000) (hea : ∀ s ∈ a, RW ef w B s.ea s.eff ∧ (s.eff.length : Int) ≤ 100000) (heb : ∀ s ∈ b, RW ef w B s.ea s.eff) (x : Bool) (hx : x = true ↔ a.map Ab.pl = b.map Ab.pl) :
    Calls Tryz.prog 48 #[.slice A n c, .slice A' m c', .func (.func 49) #[] #[]] w fun e w' => e = .returned (.bool x) ∧ Below w.heap.size w w' := by
  by_cases hn : n = m
  · subst hn; exact eqf_go_ab ha hb hB hna hnb hl hea heb x hx
  · refine (eqf_len_ab hn).mono fun e w' h => ⟨?_, by rw [← h.2]; exact Below.refl _ _⟩
    rw [map_len hx (by omega)]
    exact h.1

theorem eqf_len_fo {w : World} {A A' : Option Addr} {n m c c' : Nat} (hn : n ≠ m) : Calls Tryz.prog 51 #[.slice A n c, .slice A' m c', .func (.func 52) #[] #[]] w fun e w' => e = .returned (.bool false) ∧ w = w' := by
  have h1 : ((n : Int) != (m : Int)) = true := by simp; omega
  have h2 : ¬ (n : Int) = m := by omega
  go_enter Tryz.func51, Tryz.ntmps51
  go_wp2
  go_ret
  exact ⟨rfl, rfl⟩
set_option maxRecDepth 20000 in
set_option maxHeartbeats 4000000 in
theorem eqf_go_fo {w : World} {B : Nat} {A A' : Option Addr} {a b : List Fo} {n c c' : Nat} (ha : RW fo w B A a) (hb : RW fo w B A' b) (hB : B ≤ w.heap.size) (hna : a.length = n) (hnb : b.length = n) (hl : (n : Int) ≤ 100000) (hea : ∀ s ∈ a, RW ln w B s.sa s.script ∧ RW pz w B s.ha s.hoard ∧ (s.script.length : Int) ≤ 100000 ∧ (s.hoard.length : Int) ≤ 100000) (heb : ∀ s ∈ b, RW ln w B s.sa s.script ∧ RW pz w B s.ha s.hoard) (x : Bool) (hx : x = true ↔ a.map Fo.pl = b.map Fo.pl) :
    Calls Tryz.prog 51 #[.slice A n c, .slice A' n c', .func (.func 52) #[] #[]] w fun e w' => e = .returned (.bool x) ∧ Below w.heap.size w w' := by
  have HA := Lib.hid ha; have HB := Lib.hid hb; have HX := Lib.hid hx; have HNA := Lib.hid hna; have HNB := Lib.hid hnb; have HEA := Lib.hid hea; have HEB := Lib.hid heb
  have hn1 : ((n : Int) != (n : Int)) = false := by simp
  clear ha hb hx hna hnb hea heb
  go_enter Tryz.func51, Tryz.ntmps51
  go_wp2
  go_loopg [17] n (fun m s17 wr => ∃ (k : Nat), k ≤ n ∧ m = n - k ∧ s17 = .int .i64 (k : Int) ∧ Hid (Below w.heap.size w wr) ∧ Hid (∀ (i : Nat) s t, i < k → a[i]? = some s → b[i]? = some t → Fo.pl s = Fo.pl t))
  case atStart => exact ⟨0, by omega, rfl, rfl, Lib.hid (Below.refl _ _), Lib.hid (fun i _ _ hi => by omega)⟩
  case round =>
    obtain ⟨k, hk, rfl, rfl, HW, HE⟩ := hrel
    have hbw := HW.out
    have hws := HW.out.size
    by_cases hkl : k < n
    · have hkl' : (k : Int) < n := by omega
      obtain ⟨s, hs⟩ : ∃ s, a[k]? = some s := ⟨_, List.getElem?_eq_getElem (by rw [HNA.out]; exact hkl)⟩
      obtain ⟨t, ht⟩ : ∃ t, b[k]? = some t := ⟨_, List.getElem?_eq_getElem (by rw [HNB.out]; exact hkl)⟩
      obtain ⟨p, off, hA, hpl, c0, c1, c2, c3, c4, c5, c6, c7⟩ := rowFo HA.out hs hbw hB
      obtain ⟨p', off', hA', hpl', d0, d1, d2, d3, d4, d5, d6, d7⟩ := rowFo HB.out ht hbw hB
      subst hA; subst hA'
      have hp1 : p < wr.heap.size := by omega
      have hp2 : p' < wr.heap.size := by omega
      obtain ⟨e, he⟩ := bex (Fo.pl s = Fo.pl t)
      have hsm : s ∈ a := List.mem_of_getElem? hs
      have htm : t ∈ b := List.mem_of_getElem? ht
      have hea := HEA.out; have heb := HEB.out
      have q1 := hea s hsm; have q2 := heb t htm
      have HC : Hid (∀ V, Below w.heap.size w V → Calls Tryz.prog 52 #[fov s, fov t] V fun e' w' => e' = .returned (.bool e) ∧ Below V.heap.size V w') := Lib.hid (fun V hV => sameFo s t (q1.1.below hV hB) (q2.1.below hV hB) (q1.2.1.below hV hB) (q2.2.below hV hB) (Nat.le_trans hB hV.size) q1.2.2.1 q1.2.2.2 e he)
      have HS := Lib.hid hs; have HT := Lib.hid ht; have HEE := Lib.hid he
      clear hs ht he hsm htm q1 q2 hea heb
      cases e with
      | false =>
        have HF := Lib.hid (map_bad HX.out HS.out HT.out (fun h => by have := HEE.out.2 h; cases this))
        clear HEE
        go_wp2_with (first | ((with_reducible refine (HC.out _ (by go_grown)).mono ?_); rintro e' w1 ⟨rfl, hB1⟩; have hV1 := bstep hB1 (V := w) (by go_grown)))
        go_ret
        exact ⟨by rw [HF.out]; rfl, hV1⟩
      | true =>
        have HE2 := Lib.hid (map_next HS.out HT.out (HEE.out.1 rfl) HE.out)
        clear HEE
        go_wp2_with (first | ((with_reducible refine (HC.out _ (by go_grown)).mono ?_); rintro e' w1 ⟨rfl, hB1⟩; have hV1 := bstep hB1 (V := w) (by go_grown)))
        go_roundg (n - (k + 1))
        case measure => omega
        case rel => exact ⟨k + 1, by omega, rfl, by go_num, Lib.hid hV1, HE2⟩
    · have hkl' : decide ((k : Int) < n) = false := by simp; omega
      have HT := Lib.hid (map_all HX.out (by rw [HNA.out, HNB.out]) (by rw [HNA.out]; omega) HE.out)
      go_wp2
      go_ret
      exact ⟨by rw [HT.out]; rfl, hbw⟩
theorem eqf_fo {w : World} {B : Nat} {A A' : Option Addr} {a b : List Fo} {n m c c' : Nat} (ha : RW fo w B A a) (hb : RW fo w B A' b) (hB : B ≤ w.heap.size) (hna : a.length = n) (hnb : b.length = m) (hl : (n : Int) ≤ 100000) (hea : ∀ s ∈ a, RW ln w B s.sa s.script ∧ RW pz w B s.ha s.hoard ∧ (s.script.length : Int) ≤ 100000 ∧ (s.hoard.length : Int) ≤ 100000) (heb : ∀ s ∈ b, RW ln w B s.sa s.script ∧ RW pz w B s.ha s.hoard) (x : Bool) (hx : x = true ↔ a.map Fo.pl = b.map Fo.pl) :
    Calls Tryz.prog 51 #[.slice A n c, .slice A' m c', .func (.func 52) #[] #[]] w fun e w' => e = .returned (.bool x) ∧ Below w.heap.size w w' := by
  by_cases hn : n = m
  · subst hn; exact eqf_go_fo ha hb hB hna hnb hl hea heb x hx
  · refine (eqf_len_fo hn).mono fun e w' h => ⟨?_, by rw [← h.2]; exact Below.refl _ _⟩
    rw [map_len hx (by omega)]
    exact h.1

set_option maxRecDepth 20000 in
set_option maxHeartbeats 8000000 in
theorem same_c {w : World} {B : Nat} (c d : Cn) (hr : RC w B c) (hd : RC w B d) (hB : B ≤ w.heap.size) (hs : Sm c) (x : Bool) (hx : x = true ↔ c.pl = d.pl) :
    Calls Tryz.prog 21 #[cnv c, cnv d] w fun e w' => e = .returned (.bool x) ∧ Below w.heap.size w w' := by
  obtain ⟨x1, k1⟩ := bex (c.ab.map Ab.pl = d.ab.map Ab.pl)
  obtain ⟨x2, k2⟩ := bex (c.au = d.au)
  obtain ⟨x3, k3⟩ := bex (c.fo.map Fo.pl = d.fo.map Fo.pl)
  obtain ⟨x4, k4⟩ := bex (c.W = d.W ∧ c.H = d.H ∧ c.wl = d.wl)
  obtain ⟨x5, k5⟩ := bex (c.dx = d.dx ∧ c.dy = d.dy)
  obtain ⟨x6, k6⟩ := bex (c.lx = d.lx ∧ c.ly = d.ly)
  have q5 : ∀ V : World, (binOp .eql 29 (.agg #[.int .i64 c.dx, .int .i64 c.dy]) (.agg #[.int .i64 d.dx, .int .i64 d.dy])).run Tryz.prog V = .ok (.bool x5) V := eql_pos _ _ _ _ x5 k5
  have q6 : ∀ V : World, (binOp .eql 29 (.agg #[.int .i64 c.lx, .int .i64 c.ly]) (.agg #[.int .i64 d.lx, .int .i64 d.ly])).run Tryz.prog V = .ok (.bool x6) V := eql_pos _ _ _ _ x6 k6
  have HA : Hid (∀ V, Below w.heap.size w V → Calls Tryz.prog 48 #[.slice c.aA c.ab.length c.aC, .slice d.aA d.ab.length d.aC, .func (.func 49) #[] #[]] V fun e w' => e = .returned (.bool x1) ∧ Below V.heap.size V w') := Lib.hid (fun V hV =>
    eqf_ab (hr.abs.below hV hB) (hd.abs.below hV hB) (Nat.le_trans hB hV.size) rfl rfl (by have := hs.abs; omega) (fun s hm => ⟨(hr.effs s hm).below hV hB, by have := hs.effs s hm; omega⟩) (fun s hm => (hd.effs s hm).below hV hB) x1 k1)
  have HU : Hid (∀ V, Below w.heap.size w V → Calls Tryz.prog 50 #[.slice c.uA c.au.length c.uC, .slice d.uA d.au.length d.uC] V fun e w' => e = .returned (.bool x2) ∧ Below V.heap.size V w') := Lib.hid (fun V hV =>
    eqlb_au (hr.aus.below hV hB) (hd.aus.below hV hB) (Nat.le_trans hB hV.size) rfl rfl (by have := hs.aus; omega) x2 k2)
  have HF : Hid (∀ V, Below w.heap.size w V → Calls Tryz.prog 51 #[.slice c.fA c.fo.length c.fC, .slice d.fA d.fo.length d.fC, .func (.func 52) #[] #[]] V fun e w' => e = .returned (.bool x3) ∧ Below V.heap.size V w') := Lib.hid (fun V hV =>
    eqf_fo (hr.fos.below hV hB) (hd.fos.below hV hB) (Nat.le_trans hB hV.size) rfl rfl (by have := hs.fos; omega) (fun s hm => ⟨(hr.scrs s hm).below hV hB, (hr.hors s hm).below hV hB, by have := hs.scrs s hm; omega, by have := hs.hors s hm; omega⟩) (fun s hm => ⟨(hd.scrs s hm).below hV hB, (hd.hors s hm).below hV hB⟩) x3 k3)
  have HG : Hid (∀ V, Below w.heap.size w V → Calls Tryz.prog 53 #[gv c.W c.H c.gA c.wl.length c.gC, gv d.W d.H d.gA d.wl.length d.gC] V fun e w' => e = .returned (.bool x4) ∧ Below V.heap.size V w') := Lib.hid (fun V hV =>
    sameGr _ _ _ _ _ _ _ _ _ _ (hr.wls.below hV hB) (hd.wls.below hV hB) (Nat.le_trans hB hV.size) (by have := hs.wls; omega) x4 k4)
  have HX := Lib.hid hx; have K1 := Lib.hid k1; have K2 := Lib.hid k2; have K3 := Lib.hid k3; have K4 := Lib.hid k4; have K5 := Lib.hid k5; have K6 := Lib.hid k6
  clear hr hd hs hx k1 k2 k3 k4 k5 k6
  go_enter Tryz.func21, Tryz.ntmps21
  go_wp2_with (first
    | ((with_reducible refine (HA.out _ (by go_grown)).mono ?_); rintro e w1 ⟨rfl, hB1⟩; have hV1 := bstep hB1 (V := w) (by go_grown); have g1 := fun o => hB1.cell (p := ⟨w.heap.size, o, none⟩) (by go_size); have g1' := fun o => hB1.cell (p := ⟨w.heap.size + 1, o, none⟩) (by go_size); have hs1 : w.heap.size + 1 < w1.heap.size := Nat.lt_of_lt_of_le (by simp) hB1.size)
    | ((with_reducible refine (HU.out _ hV1).mono ?_); rintro e w2 ⟨rfl, hB2⟩; have hV2 := bstep hB2 (V := w) hV1; have g2 := fun o => hB2.cell (p := ⟨w.heap.size, o, none⟩) (by go_size); have g2' := fun o => hB2.cell (p := ⟨w.heap.size + 1, o, none⟩) (by go_size); have hs2 := Nat.lt_of_lt_of_le hs1 hB2.size)
    | ((with_reducible refine (HF.out _ hV2).mono ?_); rintro e w3 ⟨rfl, hB3⟩; have hV3 := bstep hB3 (V := w) hV2; have g3 := fun o => hB3.cell (p := ⟨w.heap.size, o, none⟩) (by go_size); have g3' := fun o => hB3.cell (p := ⟨w.heap.size + 1, o, none⟩) (by go_size); have hs3 := Nat.lt_of_lt_of_le hs2 hB3.size)
    | ((with_reducible refine (HG.out _ hV3).mono ?_); rintro e w4 ⟨rfl, hB4⟩; have hV4 := bstep hB4 (V := w) hV3; have g4 := fun o => hB4.cell (p := ⟨w.heap.size, o, none⟩) (by go_size); have g4' := fun o => hB4.cell (p := ⟨w.heap.size + 1, o, none⟩) (by go_size)))
  all_goals
    go_ret
    exact ⟨of_iff HX.out (by rw [Cn.pl_iff, ← K1.out, ← K2.out, ← K3.out]; have h4 := K4.out; have h5 := K5.out; have h6 := K6.out; simp_all), by first | assumption | go_grown⟩
end Go.Proofs.YtpjenkgimkndaaaGreat.Con
