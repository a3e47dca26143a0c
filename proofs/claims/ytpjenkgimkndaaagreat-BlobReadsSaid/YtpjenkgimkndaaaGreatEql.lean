/-
  Contracts of slices.Equal at rows of effects, lines, prizes, auras and truths: alike just where the lists are one.
-/
import Derived.Test.YtpjenkgimkndaaaGreatVls
import Derived.Deep.LoopGhost
import Derived.BigQuiet
namespace Go.Proofs.YtpjenkgimkndaaaGreat.Con
open Go.RowKit Go.Maps

theorem eq_len {α : Type} {a b : List α} {x : Bool} (hx : x = true ↔ a = b) (hn : a.length ≠ b.length) : x = false := by
  cases x with
  | false => rfl
  | true => exact absurd (congrArg List.length (hx.1 rfl)) hn
theorem eq_not {α : Type} {a b : List α} {k : Nat} {s t : α} {x : Bool} (hx : x = true ↔ a = b) (hs : a[k]? = some s) (ht : b[k]? = some t) (h : s ≠ t) : x = false := by
  cases x with
  | false => rfl
  | true => rw [hx.1 rfl, ht] at hs; exact absurd (Option.some.inj hs).symm h
theorem eq_next {α : Type} {a b : List α} {k : Nat} {s t : α} (hs : a[k]? = some s) (ht : b[k]? = some t) (h : a.take k = b.take k) (he : s = t) : a.take (k + 1) = b.take (k + 1) := by
  rw [List.take_add_one, List.take_add_one, hs, ht, h, he]
theorem eq_all {α : Type} {a b : List α} {k : Nat} {x : Bool} (hx : x = true ↔ a = b) (hn : a.length = b.length) (hk : a.length ≤ k) (h : a.take k = b.take k) : x = true := by
  rw [List.take_of_length_le hk, List.take_of_length_le (by omega)] at h
  exact hx.2 h

theorem neq_ef (s t : Ef) (e1 : Bool) (he : e1 = true ↔ ¬ s = t) (w : World) : (binOp .neq 71 (.agg #[.int .i64 s.kind, .int .i64 s.amount, .int .i64 s.aura]) (.agg #[.int .i64 t.kind, .int .i64 t.amount, .int .i64 t.aura])).run Tryz.prog w = .ok (.bool e1) w := by
  obtain ⟨a0, a1, a2⟩ := s
  obtain ⟨b0, b1, b2⟩ := t
  have key : e1 = !((a0 == b0) && ((a1 == b1) && ((a2 == b2)))) := by rw [Bool.eq_iff_iff, he]; simp; simp only [Decidable.imp_iff_not_or]
  rw [key]
  clear key he
  cases h0 : (a0 == b0) with
  | false => simp [go_sem, h0]
  | true =>
    cases h1 : (a1 == b1) with
    | false => simp [go_sem, h0, h1]
    | true =>
      cases h2 : (a2 == b2) with
      | false => simp [go_sem, h0, h1, h2]
      | true =>
        simp [go_sem, h0, h1, h2]
theorem neq_ln (s t : Ln) (e1 : Bool) (he : e1 = true ↔ ¬ s = t) (w : World) : (binOp .neq 73 (.agg #[.int .i64 s.phase, .int .i64 s.whn, .int .i64 s.arg, .int .i64 s.dos, .int .i64 s.value]) (.agg #[.int .i64 t.phase, .int .i64 t.whn, .int .i64 t.arg, .int .i64 t.dos, .int .i64 t.value])).run Tryz.prog w = .ok (.bool e1) w := by
  obtain ⟨a0, a1, a2, a3, a4⟩ := s
  obtain ⟨b0, b1, b2, b3, b4⟩ := t
  have key : e1 = !((a0 == b0) && ((a1 == b1) && ((a2 == b2) && ((a3 == b3) && ((a4 == b4)))))) := by rw [Bool.eq_iff_iff, he]; simp; simp only [Decidable.imp_iff_not_or]
  rw [key]
  clear key he
  cases h0 : (a0 == b0) with
  | false => simp [go_sem, h0]
  | true =>
    cases h1 : (a1 == b1) with
    | false => simp [go_sem, h0, h1]
    | true =>
      cases h2 : (a2 == b2) with
      | false => simp [go_sem, h0, h1, h2]
      | true =>
        cases h3 : (a3 == b3) with
        | false => simp [go_sem, h0, h1, h2, h3]
        | true =>
          cases h4 : (a4 == b4) with
          | false => simp [go_sem, h0, h1, h2, h3, h4]
          | true =>
            simp [go_sem, h0, h1, h2, h3, h4]
theorem neq_pz (s t : Pz) (e1 : Bool) (he : e1 = true ↔ ¬ s = t) (w : World) : (binOp .neq 75 (.agg #[.int .i64 s.item, .int .i64 s.weight]) (.agg #[.int .i64 t.item, .int .i64 t.weight])).run Tryz.prog w = .ok (.bool e1) w := by
  obtain ⟨a0, a1⟩ := s
  obtain ⟨b0, b1⟩ := t
  have key : e1 = !((a0 == b0) && ((a1 == b1))) := by rw [Bool.eq_iff_iff, he]; simp; simp only [Decidable.imp_iff_not_or]
  rw [key]
  clear key he
  cases h0 : (a0 == b0) with
  | false => simp [go_sem, h0]
  | true =>
    cases h1 : (a1 == b1) with
    | false => simp [go_sem, h0, h1]
    | true =>
      simp [go_sem, h0, h1]
theorem neq_au (s t : Au) (e1 : Bool) (he : e1 = true ↔ ¬ s = t) (w : World) : (binOp .neq 63 (.agg #[.int .i64 s.id, .int .i64 s.kind, .int .i64 s.ticks, .int .i64 s.every, .int .i64 s.stacks, .int .i64 s.amount, .bool s.harm]) (.agg #[.int .i64 t.id, .int .i64 t.kind, .int .i64 t.ticks, .int .i64 t.every, .int .i64 t.stacks, .int .i64 t.amount, .bool t.harm])).run Tryz.prog w = .ok (.bool e1) w := by
  obtain ⟨a0, a1, a2, a3, a4, a5, a6⟩ := s
  obtain ⟨b0, b1, b2, b3, b4, b5, b6⟩ := t
  have key : e1 = !((a0 == b0) && ((a1 == b1) && ((a2 == b2) && ((a3 == b3) && ((a4 == b4) && ((a5 == b5) && ((a6 == b6)))))))) := by rw [Bool.eq_iff_iff, he]; simp; simp only [Decidable.imp_iff_not_or]
  rw [key]
  clear key he
  cases h0 : (a0 == b0) with
  | false => simp [go_sem, h0]
  | true =>
    cases h1 : (a1 == b1) with
    | false => simp [go_sem, h0, h1]
    | true =>
      cases h2 : (a2 == b2) with
      | false => simp [go_sem, h0, h1, h2]
      | true =>
        cases h3 : (a3 == b3) with
        | false => simp [go_sem, h0, h1, h2, h3]
        | true =>
          cases h4 : (a4 == b4) with
          | false => simp [go_sem, h0, h1, h2, h3, h4]
          | true =>
            cases h5 : (a5 == b5) with
            | false => simp [go_sem, h0, h1, h2, h3, h4, h5]
            | true =>
              cases h6 : (a6 == b6) with
              | false => simp [go_sem, h0, h1, h2, h3, h4, h5, h6]
              | true =>
                simp [go_sem, h0, h1, h2, h3, h4, h5, h6]
theorem rb_rw {w : World} {B : Nat} {A : Option Addr} {l : List Bool} (h : RB w B A l) : RW bo w B A l := by
  rcases h with rfl | ⟨b, off, hA, hlt, hc⟩
  · exact .inl rfl
  · refine .inr ⟨b, off, hA, hlt, fun i x hx j v hv => ?_⟩
    have hj : j = 0 := by have := (List.getElem?_eq_some_iff.1 hv).1; rw [bo.klen] at this; simpa [bo] using this
    subst hj
    obtain rfl : Value.bool x = v := by simpa [bo, encBo] using hv
    have := hc i x hx
    simpa [bo] using this
theorem rw_rb {w : World} {B : Nat} {A : Option Addr} {l : List Bool} (h : RW bo w B A l) : RB w B A l := by
  rcases h with rfl | ⟨b, off, hA, hlt, hc⟩
  · exact .inl rfl
  · refine .inr ⟨b, off, hA, hlt, fun i x hx => ?_⟩
    have := hc i x hx 0 (.bool x) rfl
    simpa [bo] using this
theorem rowBo {w W : World} {B B' : Nat} {A : Option Addr} {l : List Bool} (hr : RB w B A l) {k : Nat} {x : Bool} (hx : l[k]? = some x) (hb : Below B' w W) (hB : B ≤ B') :
    ∃ p off, A = some ⟨p, off, none⟩ ∧ p < B ∧ W.cell? ⟨p, off + k, none⟩ = some (.bool x) := by
  rcases hr with rfl | ⟨b, off, hA, hlt, hc⟩
  · simp at hx
  · exact ⟨b, off, hA, hlt, (hb.cell (p := ⟨b, off + k, none⟩) (Nat.lt_of_lt_of_le hlt hB)).trans (hc k x hx)⟩
theorem neq_bo (s t : Bool) (e1 : Bool) (he : e1 = true ↔ ¬ s = t) (w : World) : (binOp .neq 4 (.bool s) (.bool t)).run Tryz.prog w = .ok (.bool e1) w := by
  cases s <;> cases t <;> cases e1 <;> simp_all [go_sem]


theorem eqls_len_ef {w : World} {A A' : Option Addr} {n m c c' : Nat} (hn : n ≠ m) : Calls Tryz.prog 93 #[.slice A n c, .slice A' m c'] w fun e w' => e = .returned (.bool false) ∧ w = w' := by
  have h1 : ((n : Int) != (m : Int)) = true := by simp; omega
  have h2 : ¬ (n : Int) = m := by omega
  go_enter Tryz.func93, Tryz.ntmps93
  go_wp2
  go_ret
  exact ⟨rfl, rfl⟩
set_option maxRecDepth 20000 in
set_option maxHeartbeats 4000000 in
theorem eqls_go_ef {w : World} {B : Nat} {A A' : Option Addr} {a b : List Ef} {n c c' : Nat} (ha : RW ef w B A a) (hb : RW ef w B A' b) (hB : B ≤ w.heap.size) (hna : a.length = n) (hnb : b.length = n) (hl : (n : Int) ≤ 100000) (x : Bool) (hx : x = true ↔ a = b) :
    Calls Tryz.prog 93 #[.slice A n c, .slice A' n c'] w fun e w' => e = .returned (.bool x) ∧ ∃ k, w' = w.drewN k := by
  have HA := Lib.hid ha; have HB := Lib.hid hb; have HX := Lib.hid hx; have HNA := Lib.hid hna; have HNB := Lib.hid hnb
  have hn1 : ((n : Int) != (n : Int)) = false := by simp
  clear ha hb hx hna hnb
  go_enter Tryz.func93, Tryz.ntmps93
  go_wp2
  go_loopg [13] n (fun m s13 wr => ∃ (k q : Nat), k ≤ n ∧ m = n - k ∧ s13 = .int .i64 (k : Int) ∧ Hid (wr = w.drewN q) ∧ Hid (a.take k = b.take k))
  case atStart => exact ⟨0, 0, by omega, rfl, rfl, Lib.hid rfl, Lib.hid (by simp)⟩
  case round =>
    obtain ⟨k, q, hk, rfl, rfl, HW, HE⟩ := hrel
    by_cases hkl : k < n
    · have hkl' : (k : Int) < n := by omega
      obtain ⟨s, hs⟩ : ∃ s, a[k]? = some s := ⟨_, List.getElem?_eq_getElem (by rw [HNA.out]; exact hkl)⟩
      obtain ⟨t, ht⟩ : ∃ t, b[k]? = some t := ⟨_, List.getElem?_eq_getElem (by rw [HNB.out]; exact hkl)⟩
      have hbw : Below w.heap.size w wr := by rw [HW.out]; exact below_drewN (Below.refl _ _) q
      obtain ⟨p, off, hA, hpl, c0, c1, c2⟩ := rowEf HA.out hs hbw hB
      obtain ⟨p', off', hA', hpl', d0, d1, d2⟩ := rowEf HB.out ht hbw hB
      subst hA; subst hA'
      obtain ⟨e, he⟩ := bex (¬ s = t)
      have hq : ∀ V : World, (binOp .neq 71 (.agg #[.int .i64 s.kind, .int .i64 s.amount, .int .i64 s.aura]) (.agg #[.int .i64 t.kind, .int .i64 t.amount, .int .i64 t.aura])).run Tryz.prog V = .ok (.bool e) V := neq_ef s t e he
      have HS := Lib.hid hs; have HT := Lib.hid ht; have HEE := Lib.hid he
      clear hs ht he hbw
      cases e with
      | true =>
        have HF := Lib.hid (eq_not HX.out HS.out HT.out (HEE.out.1 rfl))
        clear HEE
        go_wp2
        go_quiet (fail)
        go_wp2
        go_ret
        exact ⟨by rw [HF.out]; rfl, _, by rw [HW.out, World.drewN_drewN]⟩
      | false =>
        have hst : s = t := Classical.byContradiction (fun h => by have := HEE.out.2 h; cases this)
        have HE2 := Lib.hid (eq_next HS.out HT.out HE.out hst)
        clear HEE hst
        go_wp2
        go_quiet (fail)
        go_wp2
        go_roundg (n - (k + 1))
        case measure => omega
        case rel => exact ⟨k + 1, q + nq, by omega, rfl, by go_num, Lib.hid (by rw [HW.out, World.drewN_drewN]), HE2⟩
    · have hkl' : decide ((k : Int) < n) = false := by simp; omega
      have HT := Lib.hid (eq_all HX.out (by rw [HNA.out, HNB.out]) (by rw [HNA.out]; omega) HE.out)
      go_wp2
      go_ret
      exact ⟨by rw [HT.out]; rfl, q, HW.out⟩
theorem eqls_ef {w : World} {B : Nat} {A A' : Option Addr} {a b : List Ef} {n m c c' : Nat} (ha : RW ef w B A a) (hb : RW ef w B A' b) (hB : B ≤ w.heap.size) (hna : a.length = n) (hnb : b.length = m) (hl : (n : Int) ≤ 100000) (x : Bool) (hx : x = true ↔ a = b) :
    Calls Tryz.prog 93 #[.slice A n c, .slice A' m c'] w fun e w' => e = .returned (.bool x) ∧ ∃ k, w' = w.drewN k := by
  by_cases hn : n = m
  · subst hn; exact eqls_go_ef ha hb hB hna hnb hl x hx
  · refine (eqls_len_ef hn).mono fun e w' h => ⟨?_, 0, h.2.symm⟩
    rw [eq_len hx (by omega)]
    exact h.1

theorem eqls_len_ln {w : World} {A A' : Option Addr} {n m c c' : Nat} (hn : n ≠ m) : Calls Tryz.prog 94 #[.slice A n c, .slice A' m c'] w fun e w' => e = .returned (.bool false) ∧ w = w' := by
  have h1 : ((n : Int) != (m : Int)) = true := by simp; omega
  have h2 : ¬ (n : Int) = m := by omega
  go_enter Tryz.func94, Tryz.ntmps94
  go_wp2
  go_ret
  exact ⟨rfl, rfl⟩
set_option maxRecDepth 20000 in
set_option maxHeartbeats 4000000 in
theorem eqls_go_ln {w : World} {B : Nat} {A A' : Option Addr} {a b : List Ln} {n c c' : Nat} (ha : RW ln w B A a) (hb : RW ln w B A' b) (hB : B ≤ w.heap.size) (hna : a.length = n) (hnb : b.length = n) (hl : (n : Int) ≤ 100000) (x : Bool) (hx : x = true ↔ a = b) :
    Calls Tryz.prog 94 #[.slice A n c, .slice A' n c'] w fun e w' => e = .returned (.bool x) ∧ ∃ k, w' = w.drewN k := by
  have HA := Lib.hid ha; have HB := Lib.hid hb; have HX := Lib.hid hx; have HNA := Lib.hid hna; have HNB := Lib.hid hnb
  have hn1 : ((n : Int) != (n : Int)) = false := by simp
  clear ha hb hx hna hnb
  go_enter Tryz.func94, Tryz.ntmps94
  go_wp2
  go_loopg [13] n (fun m s13 wr => ∃ (k q : Nat), k ≤ n ∧ m = n - k ∧ s13 = .int .i64 (k : Int) ∧ Hid (wr = w.drewN q) ∧ Hid (a.take k = b.take k))
  case atStart => exact ⟨0, 0, by omega, rfl, rfl, Lib.hid rfl, Lib.hid (by simp)⟩
  case round =>
    obtain ⟨k, q, hk, rfl, rfl, HW, HE⟩ := hrel
    by_cases hkl : k < n
    · have hkl' : (k : Int) < n := by omega
      obtain ⟨s, hs⟩ : ∃ s, a[k]? = some s := ⟨_, List.getElem?_eq_getElem (by rw [HNA.out]; exact hkl)⟩
      obtain ⟨t, ht⟩ : ∃ t, b[k]? = some t := ⟨_, List.getElem?_eq_getElem (by rw [HNB.out]; exact hkl)⟩
      have hbw : Below w.heap.size w wr := by rw [HW.out]; exact below_drewN (Below.refl _ _) q
      obtain ⟨p, off, hA, hpl, c0, c1, c2, c3, c4⟩ := rowLn HA.out hs hbw hB
      obtain ⟨p', off', hA', hpl', d0, d1, d2, d3, d4⟩ := rowLn HB.out ht hbw hB
      subst hA; subst hA'
      obtain ⟨e, he⟩ := bex (¬ s = t)
      have hq : ∀ V : World, (binOp .neq 73 (.agg #[.int .i64 s.phase, .int .i64 s.whn, .int .i64 s.arg, .int .i64 s.dos, .int .i64 s.value]) (.agg #[.int .i64 t.phase, .int .i64 t.whn, .int .i64 t.arg, .int .i64 t.dos, .int .i64 t.value])).run Tryz.prog V = .ok (.bool e) V := neq_ln s t e he
      have HS := Lib.hid hs; have HT := Lib.hid ht; have HEE := Lib.hid he
      clear hs ht he hbw
      cases e with
      | true =>
        have HF := Lib.hid (eq_not HX.out HS.out HT.out (HEE.out.1 rfl))
        clear HEE
        go_wp2
        go_quiet (fail)
        go_wp2
        go_ret
        exact ⟨by rw [HF.out]; rfl, _, by rw [HW.out, World.drewN_drewN]⟩
      | false =>
        have hst : s = t := Classical.byContradiction (fun h => by have := HEE.out.2 h; cases this)
        have HE2 := Lib.hid (eq_next HS.out HT.out HE.out hst)
        clear HEE hst
        go_wp2
        go_quiet (fail)
        go_wp2
        go_roundg (n - (k + 1))
        case measure => omega
        case rel => exact ⟨k + 1, q + nq, by omega, rfl, by go_num, Lib.hid (by rw [HW.out, World.drewN_drewN]), HE2⟩
    · have hkl' : decide ((k : Int) < n) = false := by simp; omega
      have HT := Lib.hid (eq_all HX.out (by rw [HNA.out, HNB.out]) (by rw [HNA.out]; omega) HE.out)
      go_wp2
      go_ret
      exact ⟨by rw [HT.out]; rfl, q, HW.out⟩
theorem eqls_ln {w : World} {B : Nat} {A A' : Option Addr} {a b : List Ln} {n m c c' : Nat} (ha : RW ln w B A a) (hb : RW ln w B A' b) (hB : B ≤ w.heap.size) (hna : a.length = n) (hnb : b.length = m) (hl : (n : Int) ≤ 100000) (x : Bool) (hx : x = true ↔ a = b) :
    Calls Tryz.prog 94 #[.slice A n c, .slice A' m c'] w fun e w' => e = .returned (.bool x) ∧ ∃ k, w' = w.drewN k := by
  by_cases hn : n = m
  · subst hn; exact eqls_go_ln ha hb hB hna hnb hl x hx
  · refine (eqls_len_ln hn).mono fun e w' h => ⟨?_, 0, h.2.symm⟩
    rw [eq_len hx (by omega)]
    exact h.1

theorem eqls_len_pz {w : World} {A A' : Option Addr} {n m c c' : Nat} (hn : n ≠ m) : Calls Tryz.prog 95 #[.slice A n c, .slice A' m c'] w fun e w' => e = .returned (.bool false) ∧ w = w' := by
  have h1 : ((n : Int) != (m : Int)) = true := by simp; omega
  have h2 : ¬ (n : Int) = m := by omega
  go_enter Tryz.func95, Tryz.ntmps95
  go_wp2
  go_ret
  exact ⟨rfl, rfl⟩
set_option maxRecDepth 20000 in
set_option maxHeartbeats 4000000 in
theorem eqls_go_pz {w : World} {B : Nat} {A A' : Option Addr} {a b : List Pz} {n c c' : Nat} (ha : RW pz w B A a) (hb : RW pz w B A' b) (hB : B ≤ w.heap.size) (hna : a.length = n) (hnb : b.length = n) (hl : (n : Int) ≤ 100000) (x : Bool) (hx : x = true ↔ a = b) :
    Calls Tryz.prog 95 #[.slice A n c, .slice A' n c'] w fun e w' => e = .returned (.bool x) ∧ ∃ k, w' = w.drewN k := by
  have HA := Lib.hid ha; have HB := Lib.hid hb; have HX := Lib.hid hx; have HNA := Lib.hid hna; have HNB := Lib.hid hnb
  have hn1 : ((n : Int) != (n : Int)) = false := by simp
  clear ha hb hx hna hnb
  go_enter Tryz.func95, Tryz.ntmps95
  go_wp2
  go_loopg [13] n (fun m s13 wr => ∃ (k q : Nat), k ≤ n ∧ m = n - k ∧ s13 = .int .i64 (k : Int) ∧ Hid (wr = w.drewN q) ∧ Hid (a.take k = b.take k))
  case atStart => exact ⟨0, 0, by omega, rfl, rfl, Lib.hid rfl, Lib.hid (by simp)⟩
  case round =>
    obtain ⟨k, q, hk, rfl, rfl, HW, HE⟩ := hrel
    by_cases hkl : k < n
    · have hkl' : (k : Int) < n := by omega
      obtain ⟨s, hs⟩ : ∃ s, a[k]? = some s := ⟨_, List.getElem?_eq_getElem (by rw [HNA.out]; exact hkl)⟩
      obtain ⟨t, ht⟩ : ∃ t, b[k]? = some t := ⟨_, List.getElem?_eq_getElem (by rw [HNB.out]; exact hkl)⟩
      have hbw : Below w.heap.size w wr := by rw [HW.out]; exact below_drewN (Below.refl _ _) q
      obtain ⟨p, off, hA, hpl, c0, c1⟩ := rowPz HA.out hs hbw hB
      obtain ⟨p', off', hA', hpl', d0, d1⟩ := rowPz HB.out ht hbw hB
      subst hA; subst hA'
      obtain ⟨e, he⟩ := bex (¬ s = t)
      have hq : ∀ V : World, (binOp .neq 75 (.agg #[.int .i64 s.item, .int .i64 s.weight]) (.agg #[.int .i64 t.item, .int .i64 t.weight])).run Tryz.prog V = .ok (.bool e) V := neq_pz s t e he
      have HS := Lib.hid hs; have HT := Lib.hid ht; have HEE := Lib.hid he
      clear hs ht he hbw
      cases e with
      | true =>
        have HF := Lib.hid (eq_not HX.out HS.out HT.out (HEE.out.1 rfl))
        clear HEE
        go_wp2
        go_quiet (fail)
        go_wp2
        go_ret
        exact ⟨by rw [HF.out]; rfl, _, by rw [HW.out, World.drewN_drewN]⟩
      | false =>
        have hst : s = t := Classical.byContradiction (fun h => by have := HEE.out.2 h; cases this)
        have HE2 := Lib.hid (eq_next HS.out HT.out HE.out hst)
        clear HEE hst
        go_wp2
        go_quiet (fail)
        go_wp2
        go_roundg (n - (k + 1))
        case measure => omega
        case rel => exact ⟨k + 1, q + nq, by omega, rfl, by go_num, Lib.hid (by rw [HW.out, World.drewN_drewN]), HE2⟩
    · have hkl' : decide ((k : Int) < n) = false := by simp; omega
      have HT := Lib.hid (eq_all HX.out (by rw [HNA.out, HNB.out]) (by rw [HNA.out]; omega) HE.out)
      go_wp2
      go_ret
      exact ⟨by rw [HT.out]; rfl, q, HW.out⟩
theorem eqls_pz {w : World} {B : Nat} {A A' : Option Addr} {a b : List Pz} {n m c c' : Nat} (ha : RW pz w B A a) (hb : RW pz w B A' b) (hB : B ≤ w.heap.size) (hna : a.length = n) (hnb : b.length = m) (hl : (n : Int) ≤ 100000) (x : Bool) (hx : x = true ↔ a = b) :
    Calls Tryz.prog 95 #[.slice A n c, .slice A' m c'] w fun e w' => e = .returned (.bool x) ∧ ∃ k, w' = w.drewN k := by
  by_cases hn : n = m
  · subst hn; exact eqls_go_pz ha hb hB hna hnb hl x hx
  · refine (eqls_len_pz hn).mono fun e w' h => ⟨?_, 0, h.2.symm⟩
    rw [eq_len hx (by omega)]
    exact h.1

theorem eqls_len_au {w : World} {A A' : Option Addr} {n m c c' : Nat} (hn : n ≠ m) : Calls Tryz.prog 50 #[.slice A n c, .slice A' m c'] w fun e w' => e = .returned (.bool false) ∧ w = w' := by
  have h1 : ((n : Int) != (m : Int)) = true := by simp; omega
  have h2 : ¬ (n : Int) = m := by omega
  go_enter Tryz.func50, Tryz.ntmps50
  go_wp2
  go_ret
  exact ⟨rfl, rfl⟩
set_option maxRecDepth 20000 in
set_option maxHeartbeats 4000000 in
theorem eqls_go_au {w : World} {B : Nat} {A A' : Option Addr} {a b : List Au} {n c c' : Nat} (ha : RW au w B A a) (hb : RW au w B A' b) (hB : B ≤ w.heap.size) (hna : a.length = n) (hnb : b.length = n) (hl : (n : Int) ≤ 100000) (x : Bool) (hx : x = true ↔ a = b) :
    Calls Tryz.prog 50 #[.slice A n c, .slice A' n c'] w fun e w' => e = .returned (.bool x) ∧ ∃ k, w' = w.drewN k := by
  have HA := Lib.hid ha; have HB := Lib.hid hb; have HX := Lib.hid hx; have HNA := Lib.hid hna; have HNB := Lib.hid hnb
  have hn1 : ((n : Int) != (n : Int)) = false := by simp
  clear ha hb hx hna hnb
  go_enter Tryz.func50, Tryz.ntmps50
  go_wp2
  go_loopg [13] n (fun m s13 wr => ∃ (k q : Nat), k ≤ n ∧ m = n - k ∧ s13 = .int .i64 (k : Int) ∧ Hid (wr = w.drewN q) ∧ Hid (a.take k = b.take k))
  case atStart => exact ⟨0, 0, by omega, rfl, rfl, Lib.hid rfl, Lib.hid (by simp)⟩
  case round =>
    obtain ⟨k, q, hk, rfl, rfl, HW, HE⟩ := hrel
    by_cases hkl : k < n
    · have hkl' : (k : Int) < n := by omega
      obtain ⟨s, hs⟩ : ∃ s, a[k]? = some s := ⟨_, List.getElem?_eq_getElem (by rw [HNA.out]; exact hkl)⟩
      obtain ⟨t, ht⟩ : ∃ t, b[k]? = some t := ⟨_, List.getElem?_eq_getElem (by rw [HNB.out]; exact hkl)⟩
      have hbw : Below w.heap.size w wr := by rw [HW.out]; exact below_drewN (Below.refl _ _) q
      obtain ⟨p, off, hA, hpl, c0, c1, c2, c3, c4, c5, c6⟩ := rowAu HA.out hs hbw hB
      obtain ⟨p', off', hA', hpl', d0, d1, d2, d3, d4, d5, d6⟩ := rowAu HB.out ht hbw hB
      subst hA; subst hA'
      obtain ⟨e, he⟩ := bex (¬ s = t)
      have hq : ∀ V : World, (binOp .neq 63 (.agg #[.int .i64 s.id, .int .i64 s.kind, .int .i64 s.ticks, .int .i64 s.every, .int .i64 s.stacks, .int .i64 s.amount, .bool s.harm]) (.agg #[.int .i64 t.id, .int .i64 t.kind, .int .i64 t.ticks, .int .i64 t.every, .int .i64 t.stacks, .int .i64 t.amount, .bool t.harm])).run Tryz.prog V = .ok (.bool e) V := neq_au s t e he
      have HS := Lib.hid hs; have HT := Lib.hid ht; have HEE := Lib.hid he
      clear hs ht he hbw
      cases e with
      | true =>
        have HF := Lib.hid (eq_not HX.out HS.out HT.out (HEE.out.1 rfl))
        clear HEE
        go_wp2
        go_quiet (fail)
        go_wp2
        go_ret
        exact ⟨by rw [HF.out]; rfl, _, by rw [HW.out, World.drewN_drewN]⟩
      | false =>
        have hst : s = t := Classical.byContradiction (fun h => by have := HEE.out.2 h; cases this)
        have HE2 := Lib.hid (eq_next HS.out HT.out HE.out hst)
        clear HEE hst
        go_wp2
        go_quiet (fail)
        go_wp2
        go_roundg (n - (k + 1))
        case measure => omega
        case rel => exact ⟨k + 1, q + nq, by omega, rfl, by go_num, Lib.hid (by rw [HW.out, World.drewN_drewN]), HE2⟩
    · have hkl' : decide ((k : Int) < n) = false := by simp; omega
      have HT := Lib.hid (eq_all HX.out (by rw [HNA.out, HNB.out]) (by rw [HNA.out]; omega) HE.out)
      go_wp2
      go_ret
      exact ⟨by rw [HT.out]; rfl, q, HW.out⟩
theorem eqls_au {w : World} {B : Nat} {A A' : Option Addr} {a b : List Au} {n m c c' : Nat} (ha : RW au w B A a) (hb : RW au w B A' b) (hB : B ≤ w.heap.size) (hna : a.length = n) (hnb : b.length = m) (hl : (n : Int) ≤ 100000) (x : Bool) (hx : x = true ↔ a = b) :
    Calls Tryz.prog 50 #[.slice A n c, .slice A' m c'] w fun e w' => e = .returned (.bool x) ∧ ∃ k, w' = w.drewN k := by
  by_cases hn : n = m
  · subst hn; exact eqls_go_au ha hb hB hna hnb hl x hx
  · refine (eqls_len_au hn).mono fun e w' h => ⟨?_, 0, h.2.symm⟩
    rw [eq_len hx (by omega)]
    exact h.1

theorem eqls_len_bo {w : World} {A A' : Option Addr} {n m c c' : Nat} (hn : n ≠ m) : Calls Tryz.prog 96 #[.slice A n c, .slice A' m c'] w fun e w' => e = .returned (.bool false) ∧ w = w' := by
  have h1 : ((n : Int) != (m : Int)) = true := by simp; omega
  have h2 : ¬ (n : Int) = m := by omega
  go_enter Tryz.func96, Tryz.ntmps96
  go_wp2
  go_ret
  exact ⟨rfl, rfl⟩
set_option maxRecDepth 20000 in
set_option maxHeartbeats 4000000 in
theorem eqls_go_bo {w : World} {B : Nat} {A A' : Option Addr} {a b : List Bool} {n c c' : Nat} (ha : RB w B A a) (hb : RB w B A' b) (hB : B ≤ w.heap.size) (hna : a.length = n) (hnb : b.length = n) (hl : (n : Int) ≤ 100000) (x : Bool) (hx : x = true ↔ a = b) :
    Calls Tryz.prog 96 #[.slice A n c, .slice A' n c'] w fun e w' => e = .returned (.bool x) ∧ ∃ k, w' = w.drewN k := by
  have HA := Lib.hid ha; have HB := Lib.hid hb; have HX := Lib.hid hx; have HNA := Lib.hid hna; have HNB := Lib.hid hnb
  have hn1 : ((n : Int) != (n : Int)) = false := by simp
  clear ha hb hx hna hnb
  go_enter Tryz.func96, Tryz.ntmps96
  go_wp2
  go_loopg [13] n (fun m s13 wr => ∃ (k q : Nat), k ≤ n ∧ m = n - k ∧ s13 = .int .i64 (k : Int) ∧ Hid (wr = w.drewN q) ∧ Hid (a.take k = b.take k))
  case atStart => exact ⟨0, 0, by omega, rfl, rfl, Lib.hid rfl, Lib.hid (by simp)⟩
  case round =>
    obtain ⟨k, q, hk, rfl, rfl, HW, HE⟩ := hrel
    by_cases hkl : k < n
    · have hkl' : (k : Int) < n := by omega
      obtain ⟨s, hs⟩ : ∃ s, a[k]? = some s := ⟨_, List.getElem?_eq_getElem (by rw [HNA.out]; exact hkl)⟩
      obtain ⟨t, ht⟩ : ∃ t, b[k]? = some t := ⟨_, List.getElem?_eq_getElem (by rw [HNB.out]; exact hkl)⟩
      have hbw : Below w.heap.size w wr := by rw [HW.out]; exact below_drewN (Below.refl _ _) q
      obtain ⟨p, off, hA, hpl, c0⟩ := rowBo HA.out hs hbw hB
      obtain ⟨p', off', hA', hpl', d0⟩ := rowBo HB.out ht hbw hB
      subst hA; subst hA'
      obtain ⟨e, he⟩ := bex (¬ s = t)
      have hq : ∀ V : World, (binOp .neq 4 (.bool s) (.bool t)).run Tryz.prog V = .ok (.bool e) V := neq_bo s t e he
      have HS := Lib.hid hs; have HT := Lib.hid ht; have HEE := Lib.hid he
      clear hs ht he hbw
      cases e with
      | true =>
        have HF := Lib.hid (eq_not HX.out HS.out HT.out (HEE.out.1 rfl))
        clear HEE
        go_wp2
        go_quiet (fail)
        go_wp2
        go_ret
        exact ⟨by rw [HF.out]; rfl, _, by rw [HW.out, World.drewN_drewN]⟩
      | false =>
        have hst : s = t := Classical.byContradiction (fun h => by have := HEE.out.2 h; cases this)
        have HE2 := Lib.hid (eq_next HS.out HT.out HE.out hst)
        clear HEE hst
        go_wp2
        go_quiet (fail)
        go_wp2
        go_roundg (n - (k + 1))
        case measure => omega
        case rel => exact ⟨k + 1, q + nq, by omega, rfl, by go_num, Lib.hid (by rw [HW.out, World.drewN_drewN]), HE2⟩
    · have hkl' : decide ((k : Int) < n) = false := by simp; omega
      have HT := Lib.hid (eq_all HX.out (by rw [HNA.out, HNB.out]) (by rw [HNA.out]; omega) HE.out)
      go_wp2
      go_ret
      exact ⟨by rw [HT.out]; rfl, q, HW.out⟩
theorem eqls_bo {w : World} {B : Nat} {A A' : Option Addr} {a b : List Bool} {n m c c' : Nat} (ha : RB w B A a) (hb : RB w B A' b) (hB : B ≤ w.heap.size) (hna : a.length = n) (hnb : b.length = m) (hl : (n : Int) ≤ 100000) (x : Bool) (hx : x = true ↔ a = b) :
    Calls Tryz.prog 96 #[.slice A n c, .slice A' m c'] w fun e w' => e = .returned (.bool x) ∧ ∃ k, w' = w.drewN k := by
  by_cases hn : n = m
  · subst hn; exact eqls_go_bo ha hb hB hna hnb hl x hx
  · refine (eqls_len_bo hn).mono fun e w' h => ⟨?_, 0, h.2.symm⟩
    rw [eq_len hx (by omega)]
    exact h.1
end Go.Proofs.YtpjenkgimkndaaaGreat.Con
