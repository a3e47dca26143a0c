/-
  The small case of the laws, and which rows they play.
-/
import Derived.Test.YtmdnjkiciaidiaaPch
import Derived.Test.YtmdnjkiciaidiaaPce
namespace Go.Proofs.Ytmdnjkiciaidiaa.Con
open Go.RowKit Go.Maps

/-! ### few -/
set_option maxRecDepth 20000 in
set_option maxHeartbeats 4000000 in
theorem few_any {w : World} {B : Nat} {A : Option Addr} {l : List Co} {n cp : Nat} (hn : l.length = n) (hr : KRc w B A l) (hB : B ≤ w.heap.size) :
    Calls Try.prog 8 #[.slice A n cp] w fun e w' => ∃ fb : Bool, e = .returned (.bool fb) ∧ Hid (fb = true → n ≤ 60 ∧ ∀ x ∈ l, x.bk.length ≤ 200) ∧ Hid (Below w.heap.size w w') := by
  subst hn
  have HR := Lib.hid hr; have HB := Lib.hid hB
  clear hr hB
  go_enter Try.func8, Try.ntmps8
  go_wp2
  go_loopg [3] 101 (fun gh s3 wr => ∃ k : Nat, k ≤ l.length ∧ k ≤ 100 ∧ gh = 101 - k ∧ s3 = .int .i64 k ∧ Hid (∀ y ∈ l.take k, y.bk.length ≤ 200) ∧ Hid (Below w.heap.size w wr))
  case atStart => exact ⟨0, by omega, by omega, rfl, rfl, Lib.hid (by simp), Lib.hid (Below.refl _ _)⟩
  case round =>
    obtain ⟨k, hk, hk1, rfl, rfl, HA, HW⟩ := hrel
    have HEND : Hid (¬ (k < l.length ∧ k < 100) → l.length ≤ 60 → ∀ x ∈ l, x.bk.length ≤ 200) := Lib.hid (fun h1 h2 x hx => HA.out x (by rw [List.take_of_length_le (by omega)]; exact hx))
    by_cases hlt : k < l.length
    · have hlt' : (k : Int) < l.length := by omega
      by_cases h100 : k < 100
      · have h100' : (k : Int) < 100 := by omega
        obtain ⟨x, hx⟩ : ∃ x, l[k]? = some x := ⟨_, List.getElem?_eq_getElem hlt⟩
        obtain ⟨b, off, hAA, hpl, d0, d1⟩ := rowCo HR.out hx HW.out HB.out
        subst hAA
        have HX := Lib.hid hx
        clear hx
        by_cases h2 : 200 < x.bk.length
        · have h2' : decide ((200 : Int) < (x.bk.length : Int)) = true := decide_eq_true (by omega)
          go_wp2
          go_ret
          exact ⟨false, rfl, Lib.hid (fun h => by cases h), HW⟩
        · have h2' : decide ((200 : Int) < (x.bk.length : Int)) = false := decide_eq_false (by omega)
          go_wp2
          go_roundg (101 - (k + 1))
          case measure => omega
          case rel => exact ⟨k + 1, by omega, by omega, rfl, by go_num, Lib.hid (fun y hy => by
            rw [List.take_add_one, HX.out] at hy
            rcases List.mem_append.1 hy with hy | hy
            · exact HA.out y hy
            · simp at hy; rw [hy]; omega), HW⟩
      · have h100' : decide ((k : Int) < 100) = false := by simp; omega
        have h60 : decide ((l.length : Int) ≤ 60) = false := decide_eq_false (by omega)
        go_wp2
        go_ret
        exact ⟨false, rfl, Lib.hid (fun h => by cases h), HW⟩
    · have hlt' : decide ((k : Int) < l.length) = false := by simp; omega
      obtain ⟨fb, hfb⟩ : ∃ fb, decide ((l.length : Int) ≤ 60) = fb := ⟨_, rfl⟩
      have HFB := Lib.hid hfb
      have HEQ := Lib.hid hlt
      clear hfb
      go_wp2
      go_ret
      exact ⟨decide ((l.length : Int) ≤ 60), rfl, Lib.hid (fun h => by
        have h9 : (l.length : Int) ≤ 60 := of_decide_eq_true h
        exact ⟨by omega, HEND.out (fun h => HEQ.out h.1) (by omega)⟩), HW⟩

/-! ### small -/
theorem small_row (w : World) : KRc ((w.alloc (.cells #[.int .i64 10, .int .i64 20] 3)).alloc (.cells #[.int .i64 1, .slice (some ⟨w.heap.size, 0, none⟩) 2 2] 35)) (w.heap.size + 2) (some ⟨w.heap.size + 1, 0, none⟩) [⟨1, some ⟨w.heap.size, 0, none⟩, [10, 20], 2⟩] := by
  refine ⟨rw_at co _ _ _ _ (w.heap.size + 1) rfl rfl (by simp), fun x hx => ?_⟩
  rcases List.mem_singleton.1 hx with rfl
  have h : RW nu (w.alloc (.cells #[.int .i64 10, .int .i64 20] 3)) (w.heap.size + 1) (some ⟨w.heap.size, 0, none⟩) [10, 20] := rw_at nu _ _ _ _ _ rfl rfl rfl
  have hs : w.heap.size + 1 ≤ (w.alloc (.cells #[.int .i64 10, .int .i64 20] 3)).heap.size := by simp
  exact (h.below (below_box _ _) hs).more (by simp)
abbrev a0 : Abl := ⟨1, 0, 10, 2, 0, 0, false, none, 0, 0⟩
theorem us_1 : usL [] 1 10 0 = [(1, [10])] := by decide
theorem us_2 : usL [(1, [10])] 1 10 3 = [(1, [10, 20])] := by decide
theorem rt_1 : RtC [(1, [10])] := ⟨fun x hx => by rcases List.mem_singleton.1 hx with rfl; decide, List.pairwise_singleton ..⟩
theorem rt_2 : RtC [(1, [10, 20])] := ⟨fun x hx => by rcases List.mem_singleton.1 hx with rfl; decide, List.pairwise_singleton ..⟩
theorem ub_1 : usB [] 1 2 0 := ⟨rt_nil, by decide, by decide, by decide⟩
theorem ub_2 : usB [(1, [10])] 1 2 3 := ⟨rt_1, by decide, by decide, by decide⟩
theorem ub_3 : ¬ usB [(1, [10, 20])] 1 2 5 := fun h => absurd h.2.2.1 (by decide)
/-- What the rows of the small case are. -/
structure SmR (w : World) (A : Option Addr) (M : List Co) (P : List Cp) : Prop where
  kr : KRc w w.heap.size A M
  pl : M.map Co.pl = P
  bc : ∀ x ∈ M, x.bk.length ≤ x.bc
theorem SmR.of {w w' : World} {A : Option Addr} {M : List Co} {P : List Cp} (h : SmR w A M P) (hb : Below w.heap.size w w') : KRc w' w.heap.size A M := h.kr.below hb (Nat.le_refl _)
theorem SmR.len {w : World} {A : Option Addr} {M : List Co} {P : List Cp} (h : SmR w A M P) : M.length = P.length := by rw [← h.pl, List.length_map]
theorem SmR.each {w : World} {A : Option Addr} {M : List Co} {P : List Cp} (h : SmR w A M P) {Q : Int → List Int → Prop} (hq : ∀ x ∈ P, Q x.1 x.2) : ∀ x ∈ M, Q x.id x.bk := fun x hx => hq x.pl (by rw [← h.pl]; exact List.mem_map_of_mem hx)
set_option maxRecDepth 100000 in
set_option maxHeartbeats 8000000 in
theorem small_any (w : World) : Calls Try.prog 7 #[] w fun e w' => e = .returned (.bool true) ∧ Below w.heap.size w w' := by
  have HX : Hid (Below w.heap.size w (w.alloc (.cells #[.int .i64 1, .int .i64 0, .int .i64 10, .int .i64 2, .int .i64 0, .int .i64 0, .bool false, .slice none 0 0] 25))) := Lib.hid (below_box w (oAbl a0))
  have HZ : Hid (∀ V, Below (w.alloc (.cells #[.int .i64 1, .int .i64 0, .int .i64 10, .int .i64 2, .int .i64 0, .int .i64 0, .bool false, .slice none 0 0] 25)).heap.size (w.alloc (.cells #[.int .i64 1, .int .i64 0, .int .i64 10, .int .i64 2, .int .i64 0, .int .i64 0, .bool false, .slice none 0 0] 25)) V → w.heap.size < V.heap.size ∧ ∀ o, V.cell? ⟨w.heap.size, o, none⟩ = (#[.int .i64 1, .int .i64 0, .int .i64 10, .int .i64 2, .int .i64 0, .int .i64 0, .bool false, .slice none 0 0] : Array Value)[o]?) := Lib.hid (fun V h => ⟨(box_abl (x := a0) h).1, cellsAbl (box_abl (x := a0) h).2.1⟩)
  have HU1 : Hid (Calls Try.prog 10 #[.slice none 0 0, .agg #[.int .i64 1, .int .i64 0, .int .i64 10, .int .i64 2, .int .i64 0, .int .i64 0, .bool false, .slice none 0 0], .int .i64 0] (w.alloc (.cells #[.int .i64 1, .int .i64 0, .int .i64 10, .int .i64 2, .int .i64 0, .int .i64 0, .bool false, .slice none 0 0] 25)) (UpO (w.alloc (.cells #[.int .i64 1, .int .i64 0, .int .i64 10, .int .i64 2, .int .i64 0, .int .i64 0, .bool false, .slice none 0 0] 25)) true [(1, [10])])) := Lib.hid (by
    have h := use_yes (w := (w.alloc (.cells #[.int .i64 1, .int .i64 0, .int .i64 10, .int .i64 2, .int .i64 0, .int .i64 0, .bool false, .slice none 0 0] 25))) (B := 0) (A := none) (l := []) (n := 0) (cp := 0) a0 0 ⟨by decide, by decide⟩ rfl (by omega) (by simp) (by simp) (KR.nil _ _ _) (Nat.zero_le _) ub_1 ⟨by decide, by decide⟩ ⟨by decide, by decide⟩ (by simp)
    have e : usL (([] : List Co).map Co.pl) a0.id a0.cool 0 = [(1, [10])] := us_1
    rw [e] at h; exact h)
  have HU2 : Hid (∀ V A M c, SmR V A M [(1, [10])] → Calls Try.prog 10 #[.slice A M.length c, .agg #[.int .i64 1, .int .i64 0, .int .i64 10, .int .i64 2, .int .i64 0, .int .i64 0, .bool false, .slice none 0 0], .int .i64 3] V (UpO V true [(1, [10, 20])])) := Lib.hid (fun V A M c hS => by
    have h := use_yes (w := V) (B := V.heap.size) (A := A) (l := M) (n := M.length) (cp := c) a0 3 ⟨by decide, by decide⟩ rfl (by rw [hS.len]; decide) (hS.each (Q := fun _ b => b.length ≤ 1000) (by decide)) hS.bc hS.kr (Nat.le_refl _) (by rw [hS.pl]; exact ub_2) ⟨by decide, by decide⟩ ⟨by decide, by decide⟩ (hS.each (Q := fun _ b => ∀ y ∈ b, Fits y) (fun x hx => by rcases List.mem_singleton.1 hx with rfl; intro y hy; rcases List.mem_singleton.1 hy with rfl; exact ⟨by decide, by decide⟩))
    have e : usL (M.map Co.pl) a0.id a0.cool 3 = [(1, [10, 20])] := by rw [hS.pl]; exact us_2
    rw [e] at h; exact h)
  have HU3 : Hid (∀ V A M c, SmR V A M [(1, [10, 20])] → Calls Try.prog 10 #[.slice A M.length c, .agg #[.int .i64 1, .int .i64 0, .int .i64 10, .int .i64 2, .int .i64 0, .int .i64 0, .bool false, .slice none 0 0], .int .i64 5] V (UpO V false [(1, [10, 20])])) := Lib.hid (fun V A M c hS => by
    have h := use_no (w := V) (B := V.heap.size) (A := A) (l := M) (n := M.length) (cp := c) a0 5 ⟨by decide, by decide⟩ rfl (by rw [hS.len]; decide) (hS.each (Q := fun _ b => b.length ≤ 1000) (by decide)) hS.bc hS.kr (Nat.le_refl _) (by rw [hS.pl]; exact ub_3)
    rw [hS.pl] at h; exact h)
  have HSM : Hid (∀ V V' A M c p, SmR V A M [(1, [10, 20])] → Below V.heap.size V V' → p + 1 < V'.heap.size → KRc V' (p + 2) (some ⟨p + 1, 0, none⟩) [⟨1, some ⟨p, 0, none⟩, [10, 20], 2⟩] → Calls Try.prog 14 #[.slice A M.length c, .slice (some ⟨p + 1, 0, none⟩) 1 1] V' fun e w' => e = .returned (.bool true) ∧ Below V'.heap.size V' w') := Lib.hid (fun V V' A M c p hS hb hp hq => by
    have h := rsame_co (w := V') (n := 1) (c := c) (c' := 1) (p := M) (q := [⟨1, some ⟨p, 0, none⟩, [10, 20], 2⟩]) hS.len (by rw [hS.pl]; rfl) (by decide) (hS.each (Q := fun _ b => b.length ≤ 1000) (by decide)) (hS.of hb) hq hb.size (by omega)
    have e : M.length = 1 := hS.len
    rw [e]; exact h)
  have HRD : Hid (∀ V V' A M c now, SmR V A M [(1, [10, 20])] → Below V.heap.size V V' → Calls Try.prog 19 #[.slice A M.length c, .agg #[.int .i64 1, .int .i64 0, .int .i64 10, .int .i64 2, .int .i64 0, .int .i64 0, .bool false, .slice none 0 0], .int .i64 now] V' fun e w' => e = .returned (.int .i64 (rdI 2 (wyI [(1, [10, 20])] 1 now).length)) ∧ Below V'.heap.size V' w') := Lib.hid (fun V V' A M c now hS hb => by
    have h := ready_any (w := V') (n := M.length) (cp := c) a0 now ⟨by decide, by decide⟩ rfl (by rw [hS.len]; decide) (hS.each (Q := fun _ b => b.length ≤ 1000) (by decide)) hS.bc (hS.of hb) hb.size
    rw [hS.pl] at h; exact h)
  have HNX : Hid (∀ V V' A M c now, SmR V A M [(1, [10, 20])] → Below V.heap.size V V' → Calls Try.prog 21 #[.slice A M.length c, .agg #[.int .i64 1, .int .i64 0, .int .i64 10, .int .i64 2, .int .i64 0, .int .i64 0, .bool false, .slice none 0 0], .int .i64 now] V' fun e w' => e = .returned (.int .i64 (nxI [(1, [10, 20])] 1 2 now)) ∧ Below V'.heap.size V' w') := Lib.hid (fun V V' A M c now hS hb => by
    have h := next_any (w := V') (n := M.length) (cp := c) a0 now ⟨by decide, by decide⟩ rfl (by rw [hS.len]; decide) (hS.each (Q := fun _ b => b.length ≤ 1000) (by decide)) hS.bc (hS.of hb) hb.size
    rw [hS.pl] at h; exact h)
  have HRT : Hid (∀ V V' A M c, SmR V A M [(1, [10, 20])] → Below V.heap.size V V' → Calls Try.prog 17 #[.slice A M.length c] V' fun e w' => e = .returned (.bool true) ∧ Below V'.heap.size V' w') := Lib.hid (fun V V' A M c hS hb => right_any (w := V') (n := M.length) (cp := c) rfl (by rw [hS.len]; decide) (hS.each (Q := fun _ b => b.length ≤ 1000) (by decide)) (hS.of hb) hb.size true (by rw [hS.pl]; exact ⟨fun _ => rt_2, fun _ => rfl⟩))
  have HCL : Hid (∀ V V' A M c, SmR V A M [(1, [10, 20])] → Below V.heap.size V V' → Calls Try.prog 12 #[.slice A M.length c, .int .i64 20] V' fun e w' => (∃ A' c', e = .returned (.slice A' 0 c')) ∧ Below V'.heap.size V' w') := Lib.hid (fun V V' A M c hS hb => by
    have h := clean_any (w := V') (n := M.length) (cp := c) 20 rfl (by rw [hS.len]; decide) (hS.each (Q := fun _ b => b.length ≤ 1000) (by decide)) (hS.of hb) hb.size
    rw [hS.pl] at h
    refine h.mono fun e w' ⟨A', c', M', he, hM, _, _, hB⟩ => ⟨⟨A', c', ?_⟩, hB.out⟩
    have e0 : clI [(1, [10, 20])] 20 = [] := by decide
    have e1 : M' = [] := List.map_eq_nil_iff.1 (hM.out.trans e0)
    rw [he, e1]; rfl)
  have HRS : Hid (∀ V V' A M c, SmR V A M [(1, [10, 20])] → Below V.heap.size V V' → Calls Try.prog 13 #[.slice A M.length c, .int .i64 1] V' fun e w' => (∃ A' c', e = .returned (.slice A' 0 c')) ∧ Below V'.heap.size V' w') := Lib.hid (fun V V' A M c hS hb => by
    have h := reset_any (w := V') (n := M.length) (cp := c) 1 rfl (by rw [hS.len]; decide) (hS.each (Q := fun _ b => b.length ≤ 1000) (by decide)) (hS.of hb) hb.size
    rw [hS.pl] at h
    refine h.mono fun e w' ⟨A', c', M', he, hM, _, _, hB⟩ => ⟨⟨A', c', ?_⟩, hB.out⟩
    have e0 : rsI [(1, [10, 20])] 1 = [] := by decide
    have e1 : M' = [] := List.map_eq_nil_iff.1 (hM.out.trans e0)
    rw [he, e1]; rfl)
  have hr5 : rdI 2 (wyI [(1, [10, 20])] 1 5).length = 0 := by decide
  have hr10 : rdI 2 (wyI [(1, [10, 20])] 1 10).length = 1 := by decide
  have hn5 : nxI [(1, [10, 20])] 1 2 5 = 10 := by decide
  have HR5 := Lib.hid hr5; have HR10 := Lib.hid hr10; have HN5 := Lib.hid hn5
  clear hr5 hr10 hn5
  have HB1 := Lib.hid (Below.refl (w.alloc (.cells #[.int .i64 1, .int .i64 0, .int .i64 10, .int .i64 2, .int .i64 0, .int .i64 0, .bool false, .slice none 0 0] 25)).heap.size (w.alloc (.cells #[.int .i64 1, .int .i64 0, .int .i64 10, .int .i64 2, .int .i64 0, .int .i64 0, .bool false, .slice none 0 0] 25)))
  have zb := (HZ.out _ HB1.out).2
  have lb := (HZ.out _ HB1.out).1
  go_enter Try.func7, Try.ntmps7
  go_wp2_with (first
    | ((with_reducible refine HU1.out.mono ?_); rintro e w2 ⟨A1, c1, M1, rfl, hM1, hK1, hC1, hB2⟩; have HB2 := Lib.hid (HB1.out.trans (hB2.out.mono HB1.out.size)); clear zb lb; have zb := (HZ.out w2 HB2.out).2; have lb := (HZ.out w2 HB2.out).1; have HU2N := Lib.hid (HU2.out w2 A1 M1 c1 ⟨hK1.out.kr, hM1.out, hC1.out⟩))
    | ((with_reducible refine HU2N.out.mono ?_); rintro e w3 ⟨A2, c2, M2, rfl, hM2, hK2, hC2, hB3⟩; have HB3 := Lib.hid (HB2.out.trans (hB3.out.mono HB2.out.size)); clear zb lb; have zb := (HZ.out w3 HB3.out).2; have lb := (HZ.out w3 HB3.out).1; have HSR : Hid (SmR w3 A2 M2 [(1, [10, 20])]) := Lib.hid ⟨hK2.out.kr, hM2.out, hC2.out⟩; have HU3N := Lib.hid (HU3.out w3 A2 M2 c2 HSR.out))
    | ((with_reducible refine HU3N.out.mono ?_); rintro e w4 ⟨A3, c3, M3, rfl, hM3, hK3, hC3, hB4⟩; have HB4 := Lib.hid (HB3.out.trans (hB4.out.mono HB3.out.size)); clear zb lb; have zb := (HZ.out w4 HB4.out).2; have lb := (HZ.out w4 HB4.out).1; have HW4 := Lib.hid hB4.out; have HA5 : Hid (Below w4.heap.size w4 ((w4.alloc (.cells #[.int .i64 10, .int .i64 20] 3)).alloc (.cells #[.int .i64 1, .slice (some ⟨w4.heap.size, 0, none⟩) 2 2] 35))) := Lib.hid ((below_box w4 _).alloc (below_box w4 _).size _); have HW5 := Lib.hid (HW4.out.trans (HA5.out.mono HW4.out.size)); have HSMN := Lib.hid (HSM.out w3 ((w4.alloc (.cells #[.int .i64 10, .int .i64 20] 3)).alloc (.cells #[.int .i64 1, .slice (some ⟨w4.heap.size, 0, none⟩) 2 2] 35)) A2 M2 c2 w4.heap.size HSR.out HW5.out (by simp) (small_row w4)))
    | ((with_reducible refine HSMN.out.mono ?_); rintro e w5 ⟨rfl, hB5⟩; have HB5 := Lib.hid (HB4.out.trans ((HA5.out.trans (hB5.mono HA5.out.size)).mono HB4.out.size)); clear zb lb; have zb := (HZ.out w5 HB5.out).2; have lb := (HZ.out w5 HB5.out).1; have HW := Lib.hid (HW5.out.trans (hB5.mono HW5.out.size)); have HRDN := Lib.hid (HRD.out w3 w5 A2 M2 c2 5 HSR.out HW.out); rw [HR5.out] at HRDN; clear hB5)
    | ((with_reducible refine HRDN.out.mono ?_); rintro e w6 ⟨rfl, hB6⟩; have HB6 := Lib.hid (HB5.out.trans (hB6.mono HB5.out.size)); clear zb lb; have zb := (HZ.out w6 HB6.out).2; have lb := (HZ.out w6 HB6.out).1; have HW6 := Lib.hid (HW.out.trans (hB6.mono HW.out.size)); have HRDM := Lib.hid (HRD.out w3 w6 A2 M2 c2 10 HSR.out HW6.out); rw [HR10.out] at HRDM; clear hB6)
    | ((with_reducible refine HRDM.out.mono ?_); rintro e w7 ⟨rfl, hB7⟩; have HB7 := Lib.hid (HB6.out.trans (hB7.mono HB6.out.size)); clear zb lb; have zb := (HZ.out w7 HB7.out).2; have lb := (HZ.out w7 HB7.out).1; have HW7 := Lib.hid (HW6.out.trans (hB7.mono HW6.out.size)); have HNXN := Lib.hid (HNX.out w3 w7 A2 M2 c2 5 HSR.out HW7.out); rw [HN5.out] at HNXN; clear hB7)
    | ((with_reducible refine HNXN.out.mono ?_); rintro e w8 ⟨rfl, hB8⟩; have HB8 := Lib.hid (HB7.out.trans (hB8.mono HB7.out.size)); clear zb lb; have zb := (HZ.out w8 HB8.out).2; have lb := (HZ.out w8 HB8.out).1; have HW8 := Lib.hid (HW7.out.trans (hB8.mono HW7.out.size)); have HRTN := Lib.hid (HRT.out w3 w8 A2 M2 c2 HSR.out HW8.out); clear hB8)
    | ((with_reducible refine HRTN.out.mono ?_); rintro e w9 ⟨rfl, hB9⟩; have HB9 := Lib.hid (HB8.out.trans (hB9.mono HB8.out.size)); clear zb lb; have zb := (HZ.out w9 HB9.out).2; have lb := (HZ.out w9 HB9.out).1; have HW9 := Lib.hid (HW8.out.trans (hB9.mono HW8.out.size)); have HCLN := Lib.hid (HCL.out w3 w9 A2 M2 c2 HSR.out HW9.out); clear hB9)
    | ((with_reducible refine HCLN.out.mono ?_); rintro e w10 ⟨⟨A5, c5, rfl⟩, hB10⟩; have HB10 := Lib.hid (HB9.out.trans (hB10.mono HB9.out.size)); clear zb lb; have zb := (HZ.out w10 HB10.out).2; have lb := (HZ.out w10 HB10.out).1; have HW10 := Lib.hid (HW9.out.trans (hB10.mono HW9.out.size)); have HRSN := Lib.hid (HRS.out w3 w10 A2 M2 c2 HSR.out HW10.out); clear hB10)
    | ((with_reducible refine HRSN.out.mono ?_); rintro e w11 ⟨⟨A6, c6, rfl⟩, hB11⟩; have HB11 := Lib.hid (HB10.out.trans (hB11.mono HB10.out.size)); clear zb lb; have zb := (HZ.out w11 HB11.out).2; have lb := (HZ.out w11 HB11.out).1; clear hB11))
  go_ret
  exact ⟨rfl, HX.out.trans (HB11.out.mono HX.out.size)⟩
end Go.Proofs.Ytmdnjkiciaidiaa.Con
