/-
  Contracts of firstFlaw at rows of abilities, auras and foes: where the first row stands that may not.
-/
import Derived.Test.YtijobbdgiaiocaaChk
namespace Go.Proofs.Ytijobbdgiaiocaa.Con
open Go.RowKit Go.Maps

theorem flaw_at {α : Type} {ok : α → Prop} {id : α → Int} {l : List α} {k : Nat} {last : Int} {r : Option Nat} {x : α} (hx : l[k]? = some x) (h : Flaw ok id (l.drop k) last k r) :
    ((k = 64 ∨ id x ≤ last ∨ ¬ ok x) ∧ r = some k) ∨ (¬ (k = 64 ∨ id x ≤ last ∨ ¬ ok x) ∧ Flaw ok id (l.drop (k + 1)) (id x) (k + 1) r) := by
  obtain ⟨hk, rfl⟩ := List.getElem?_eq_some_iff.1 hx
  rw [List.drop_eq_getElem_cons hk] at h
  exact h
theorem flaw_bad {α : Type} {ok : α → Prop} {id : α → Int} {l : List α} {k : Nat} {last : Int} {r : Option Nat} {x : α} (hx : l[k]? = some x) (h : Flaw ok id (l.drop k) last k r) (hb : k = 64 ∨ id x ≤ last ∨ ¬ ok x) : r = some k := by
  rcases flaw_at hx h with ⟨_, h⟩ | ⟨h, _⟩
  · exact h
  · exact absurd hb h
theorem flaw_good {α : Type} {ok : α → Prop} {id : α → Int} {l : List α} {k : Nat} {last : Int} {r : Option Nat} {x : α} (hx : l[k]? = some x) (h : Flaw ok id (l.drop k) last k r) (h1 : k ≠ 64) (h2 : ¬ id x ≤ last) (h3 : ok x) : Flaw ok id (l.drop (k + 1)) (id x) (k + 1) r := by
  rcases flaw_at hx h with ⟨hb, _⟩ | ⟨_, h⟩
  · rcases hb with hb | hb | hb
    · exact absurd hb h1
    · exact absurd hb h2
    · exact absurd h3 hb
  · exact h
theorem flaw_end {α : Type} {ok : α → Prop} {id : α → Int} {l : List α} {k : Nat} {last : Int} {r : Option Nat} (hk : l.length ≤ k) (h : Flaw ok id (l.drop k) last k r) : r = none := by
  rw [List.drop_eq_nil_of_le hk] at h; exact h


set_option maxRecDepth 100000 in
set_option maxHeartbeats 8000000 in
theorem flaw_ab {w : World} {B : Nat} (t : Nat) {A : Option Addr} {l : List Ab} {n c : Nat} (hn : l.length = n) (hl : (n : Int) ≤ 1000000) (hr : RW ab w B A l) (hB : B ≤ w.heap.size) (ok : Ab → Prop)
    (hd : ∀ V, Below w.heap.size w V → ∀ q ∈ l, ∀ x : Bool, (x = true ↔ ok q) → Calls Try.prog 62 #[abv q, pt t] V fun e w' => e = .returned (.bool x) ∧ Below V.heap.size V w') (r : Option Nat) (hf : Flaw ok Ab.id l 0 0 r) (p : Int) (y : Bool) (hp : (r = none ∧ p = 0 ∧ y = false) ∨ ∃ k : Nat, r = some k ∧ p = (k : Int) ∧ y = true) :
    Calls Try.prog 60 #[.slice A n c, .func (.func 61) #[] #[], .func (.func 62) #[] #[pt t]] w fun e w' => e = .returned (.tuple #[.int .i64 p, .bool y]) ∧ Below w.heap.size w w' := by
  have HD := Lib.hid hd; have HRT := Lib.hid hr; have HK := Lib.hid hn; have HP := Lib.hid hp; have HF0 : Hid (Flaw ok Ab.id (l.drop 0) 0 0 r) := Lib.hid (by simpa using hf)
  clear hd hr hn hp hf
  go_enter Try.func60, Try.ntmps60
  go_wp2
  go_step3
  go_wp2
  go_step3
  go_wp2
  go_loopg [8, 9, 10, 15] n (fun m s8 s9 s10 s15 wr => ∃ (k : Nat) (last : Int), k ≤ n ∧ m = n - k ∧ s8 = .int .i64 last ∧ s9 = .int .i64 0 ∧ s10 = .bool false ∧ s15 = .int .i64 (k : Int) ∧ Hid (Flaw ok Ab.id (l.drop k) last k r) ∧ Hid (Below w.heap.size w wr))
  case atStart => exact ⟨0, 0, by omega, rfl, rfl, rfl, rfl, rfl, HF0, Lib.hid (Below.refl _ _)⟩
  case round =>
    obtain ⟨k, last, hk, rfl, rfl, rfl, rfl, rfl, HF, HW⟩ := hrel
    have hbw := HW.out
    have hws := HW.out.size
    by_cases hkl : k < n
    · have hkl' : (k : Int) < n := by omega
      obtain ⟨q, hq⟩ : ∃ q, l[k]? = some q := ⟨_, List.getElem?_eq_getElem (by rw [HK.out]; exact hkl)⟩
      obtain ⟨p0, off, hA, hpl, c0, c1, c2, c3, c4, c5, c6, c7⟩ := rowAb HRT.out hq HW.out hB
      subst hA
      have hp0 : p0 < wr.heap.size := by omega
      obtain ⟨x, hx⟩ := bex (ok q)
      have hqm : q ∈ l := List.mem_of_getElem? hq
      have HQ := Lib.hid hq; have HX := Lib.hid hx
      have HDq : Hid (∀ V, Below w.heap.size w V → Calls Try.prog 62 #[abv q, pt t] V fun e w' => e = .returned (.bool x) ∧ Below V.heap.size V w') := Lib.hid (fun V hV => HD.out V hV q hqm x hx)
      clear hq hx
      by_cases h64 : k = 64
      · have HR := Lib.hid (flaw_bad HQ.out HF.out (.inl h64))
        have h64' : ((k : Int) == 64) = true := by simp; omega
        clear h64
        go_wp2
        rw [Exit.noGoto_ret]
        go_ret2
        exact ⟨by rcases HP.out with ⟨e, _⟩ | ⟨k', e, rfl, rfl⟩
                  · rw [HR.out] at e; cases e
                  · rw [HR.out] at e; cases e; rfl, by first | assumption | go_grown⟩
      · have h64' : ((k : Int) == 64) = false := by simp; omega
        have H64 := Lib.hid h64
        clear h64
        by_cases hid : q.id ≤ last
        · have HR := Lib.hid (flaw_bad HQ.out HF.out (.inr (.inl hid)))
          go_wp2_with (first
            | ((with_reducible refine (abilityId_any q _).mono ?_); rintro e w1 ⟨rfl, hB1⟩; have hV1 := bstep hB1 (V := w) (by go_grown); have g1 := fun o => hB1.cell (p := ⟨wr.heap.size, o, none⟩) (by go_size); have hs1 : wr.heap.size < w1.heap.size := Nat.lt_of_lt_of_le (by simp) hB1.size)
            | ((with_reducible refine (HDq.out _ hV1).mono ?_); rintro e w2 ⟨rfl, hB2⟩; have hV2 := bstep hB2 (V := w) hV1; have g2 := fun o => hB2.cell (p := ⟨wr.heap.size, o, none⟩) hs1)
            | ((with_reducible refine (abilityId_any q _).mono ?_); rintro e w3 ⟨rfl, hB3⟩; have hV3 := bstep hB3 (V := w) hV2))
          rw [Exit.noGoto_ret]
          go_ret2
          exact ⟨by rcases HP.out with ⟨e, _⟩ | ⟨k', e, rfl, rfl⟩
                    · rw [HR.out] at e; cases e
                    · rw [HR.out] at e; cases e; rfl, by first | assumption | go_grown⟩
        · have hid' : decide (q.id ≤ last) = false := by simpa using hid
          have HI := Lib.hid hid
          clear hid
          cases x with
          | false =>
            have HR := Lib.hid (flaw_bad HQ.out HF.out (.inr (.inr (fun h => by have := HX.out.2 h; cases this))))
            clear HX
            go_wp2_with (first
            | ((with_reducible refine (abilityId_any q _).mono ?_); rintro e w1 ⟨rfl, hB1⟩; have hV1 := bstep hB1 (V := w) (by go_grown); have g1 := fun o => hB1.cell (p := ⟨wr.heap.size, o, none⟩) (by go_size); have hs1 : wr.heap.size < w1.heap.size := Nat.lt_of_lt_of_le (by simp) hB1.size)
            | ((with_reducible refine (HDq.out _ hV1).mono ?_); rintro e w2 ⟨rfl, hB2⟩; have hV2 := bstep hB2 (V := w) hV1; have g2 := fun o => hB2.cell (p := ⟨wr.heap.size, o, none⟩) hs1)
            | ((with_reducible refine (abilityId_any q _).mono ?_); rintro e w3 ⟨rfl, hB3⟩; have hV3 := bstep hB3 (V := w) hV2))
            rw [Exit.noGoto_ret]
            go_ret2
            exact ⟨by rcases HP.out with ⟨e, _⟩ | ⟨k', e, rfl, rfl⟩
                      · rw [HR.out] at e; cases e
                      · rw [HR.out] at e; cases e; rfl, by first | assumption | go_grown⟩
          | true =>
            have HF2 := Lib.hid (flaw_good HQ.out HF.out H64.out HI.out (HX.out.1 rfl))
            clear HX
            go_wp2_with (first
            | ((with_reducible refine (HDq.out _ hV1).mono ?_); rintro e w2 ⟨rfl, hB2⟩; have hV2 := bstep hB2 (V := w) hV1; have g2 := fun o => hB2.cell (p := ⟨wr.heap.size, o, none⟩) hs1)
            | ((with_reducible refine (abilityId_any q w2).mono ?_); rintro e w3 ⟨rfl, hB3⟩; have hV3 := bstep hB3 (V := w) hV2)
            | ((with_reducible refine (abilityId_any q _).mono ?_); rintro e w1 ⟨rfl, hB1⟩; have hV1 := bstep hB1 (V := w) (by go_grown); have g1 := fun o => hB1.cell (p := ⟨wr.heap.size, o, none⟩) (by go_size); have hs1 : wr.heap.size < w1.heap.size := Nat.lt_of_lt_of_le (by simp) hB1.size))
            go_roundg (n - (k + 1))
            case measure => omega
            case rel => exact ⟨k + 1, q.id, by omega, rfl, rfl, rfl, rfl, by go_num, HF2, Lib.hid hV3⟩
    · have hkl' : decide ((k : Int) < n) = false := by simp; omega
      have HR := Lib.hid (flaw_end (by have := HK.out; omega) HF.out)
      go_wp2
      rw [Exit.noGoto_ret]
      go_ret2
      refine ⟨?_, hbw⟩
      rcases HP.out with ⟨e, rfl, rfl⟩ | ⟨k', e, rfl, rfl⟩
      · rfl
      · rw [HR.out] at e; cases e

set_option maxRecDepth 100000 in
set_option maxHeartbeats 8000000 in
theorem flaw_au {w : World} {B : Nat} {A : Option Addr} {l : List Au} {n c : Nat} (hn : l.length = n) (hl : (n : Int) ≤ 1000000) (hr : RW au w B A l) (hB : B ≤ w.heap.size) (ok : Au → Prop)
    (hd : ∀ V, Below w.heap.size w V → ∀ q ∈ l, ∀ x : Bool, (x = true ↔ ok q) → Calls Try.prog 65 #[auv q] V fun e w' => e = .returned (.bool x) ∧ Below V.heap.size V w') (r : Option Nat) (hf : Flaw ok Au.id l 0 0 r) (p : Int) (y : Bool) (hp : (r = none ∧ p = 0 ∧ y = false) ∨ ∃ k : Nat, r = some k ∧ p = (k : Int) ∧ y = true) :
    Calls Try.prog 64 #[.slice A n c, .func (.func 52) #[] #[], .func (.func 65) #[] #[]] w fun e w' => e = .returned (.tuple #[.int .i64 p, .bool y]) ∧ Below w.heap.size w w' := by
  have HD := Lib.hid hd; have HRT := Lib.hid hr; have HK := Lib.hid hn; have HP := Lib.hid hp; have HF0 : Hid (Flaw ok Au.id (l.drop 0) 0 0 r) := Lib.hid (by simpa using hf)
  clear hd hr hn hp hf
  go_enter Try.func64, Try.ntmps64
  go_wp2
  go_step3
  go_wp2
  go_step3
  go_wp2
  go_loopg [8, 9, 10, 15] n (fun m s8 s9 s10 s15 wr => ∃ (k : Nat) (last : Int), k ≤ n ∧ m = n - k ∧ s8 = .int .i64 last ∧ s9 = .int .i64 0 ∧ s10 = .bool false ∧ s15 = .int .i64 (k : Int) ∧ Hid (Flaw ok Au.id (l.drop k) last k r) ∧ Hid (Below w.heap.size w wr))
  case atStart => exact ⟨0, 0, by omega, rfl, rfl, rfl, rfl, rfl, HF0, Lib.hid (Below.refl _ _)⟩
  case round =>
    obtain ⟨k, last, hk, rfl, rfl, rfl, rfl, rfl, HF, HW⟩ := hrel
    have hbw := HW.out
    have hws := HW.out.size
    by_cases hkl : k < n
    · have hkl' : (k : Int) < n := by omega
      obtain ⟨q, hq⟩ : ∃ q, l[k]? = some q := ⟨_, List.getElem?_eq_getElem (by rw [HK.out]; exact hkl)⟩
      obtain ⟨p0, off, hA, hpl, c0, c1, c2, c3, c4, c5, c6⟩ := rowAu HRT.out hq HW.out hB
      subst hA
      have hp0 : p0 < wr.heap.size := by omega
      obtain ⟨x, hx⟩ := bex (ok q)
      have hqm : q ∈ l := List.mem_of_getElem? hq
      have HQ := Lib.hid hq; have HX := Lib.hid hx
      have HDq : Hid (∀ V, Below w.heap.size w V → Calls Try.prog 65 #[auv q] V fun e w' => e = .returned (.bool x) ∧ Below V.heap.size V w') := Lib.hid (fun V hV => HD.out V hV q hqm x hx)
      clear hq hx
      by_cases h64 : k = 64
      · have HR := Lib.hid (flaw_bad HQ.out HF.out (.inl h64))
        have h64' : ((k : Int) == 64) = true := by simp; omega
        clear h64
        go_wp2
        rw [Exit.noGoto_ret]
        go_ret2
        exact ⟨by rcases HP.out with ⟨e, _⟩ | ⟨k', e, rfl, rfl⟩
                  · rw [HR.out] at e; cases e
                  · rw [HR.out] at e; cases e; rfl, by first | assumption | go_grown⟩
      · have h64' : ((k : Int) == 64) = false := by simp; omega
        have H64 := Lib.hid h64
        clear h64
        by_cases hid : q.id ≤ last
        · have HR := Lib.hid (flaw_bad HQ.out HF.out (.inr (.inl hid)))
          go_wp2_with (first
            | ((with_reducible refine (auraId_any q _).mono ?_); rintro e w1 ⟨rfl, hB1⟩; have hV1 := bstep hB1 (V := w) (by go_grown); have g1 := fun o => hB1.cell (p := ⟨wr.heap.size, o, none⟩) (by go_size); have hs1 : wr.heap.size < w1.heap.size := Nat.lt_of_lt_of_le (by simp) hB1.size)
            | ((with_reducible refine (HDq.out _ hV1).mono ?_); rintro e w2 ⟨rfl, hB2⟩; have hV2 := bstep hB2 (V := w) hV1; have g2 := fun o => hB2.cell (p := ⟨wr.heap.size, o, none⟩) hs1)
            | ((with_reducible refine (auraId_any q _).mono ?_); rintro e w3 ⟨rfl, hB3⟩; have hV3 := bstep hB3 (V := w) hV2))
          rw [Exit.noGoto_ret]
          go_ret2
          exact ⟨by rcases HP.out with ⟨e, _⟩ | ⟨k', e, rfl, rfl⟩
                    · rw [HR.out] at e; cases e
                    · rw [HR.out] at e; cases e; rfl, by first | assumption | go_grown⟩
        · have hid' : decide (q.id ≤ last) = false := by simpa using hid
          have HI := Lib.hid hid
          clear hid
          cases x with
          | false =>
            have HR := Lib.hid (flaw_bad HQ.out HF.out (.inr (.inr (fun h => by have := HX.out.2 h; cases this))))
            clear HX
            go_wp2_with (first
            | ((with_reducible refine (auraId_any q _).mono ?_); rintro e w1 ⟨rfl, hB1⟩; have hV1 := bstep hB1 (V := w) (by go_grown); have g1 := fun o => hB1.cell (p := ⟨wr.heap.size, o, none⟩) (by go_size); have hs1 : wr.heap.size < w1.heap.size := Nat.lt_of_lt_of_le (by simp) hB1.size)
            | ((with_reducible refine (HDq.out _ hV1).mono ?_); rintro e w2 ⟨rfl, hB2⟩; have hV2 := bstep hB2 (V := w) hV1; have g2 := fun o => hB2.cell (p := ⟨wr.heap.size, o, none⟩) hs1)
            | ((with_reducible refine (auraId_any q _).mono ?_); rintro e w3 ⟨rfl, hB3⟩; have hV3 := bstep hB3 (V := w) hV2))
            rw [Exit.noGoto_ret]
            go_ret2
            exact ⟨by rcases HP.out with ⟨e, _⟩ | ⟨k', e, rfl, rfl⟩
                      · rw [HR.out] at e; cases e
                      · rw [HR.out] at e; cases e; rfl, by first | assumption | go_grown⟩
          | true =>
            have HF2 := Lib.hid (flaw_good HQ.out HF.out H64.out HI.out (HX.out.1 rfl))
            clear HX
            go_wp2_with (first
            | ((with_reducible refine (HDq.out _ hV1).mono ?_); rintro e w2 ⟨rfl, hB2⟩; have hV2 := bstep hB2 (V := w) hV1; have g2 := fun o => hB2.cell (p := ⟨wr.heap.size, o, none⟩) hs1)
            | ((with_reducible refine (auraId_any q w2).mono ?_); rintro e w3 ⟨rfl, hB3⟩; have hV3 := bstep hB3 (V := w) hV2)
            | ((with_reducible refine (auraId_any q _).mono ?_); rintro e w1 ⟨rfl, hB1⟩; have hV1 := bstep hB1 (V := w) (by go_grown); have g1 := fun o => hB1.cell (p := ⟨wr.heap.size, o, none⟩) (by go_size); have hs1 : wr.heap.size < w1.heap.size := Nat.lt_of_lt_of_le (by simp) hB1.size))
            go_roundg (n - (k + 1))
            case measure => omega
            case rel => exact ⟨k + 1, q.id, by omega, rfl, rfl, rfl, rfl, by go_num, HF2, Lib.hid hV3⟩
    · have hkl' : decide ((k : Int) < n) = false := by simp; omega
      have HR := Lib.hid (flaw_end (by have := HK.out; omega) HF.out)
      go_wp2
      rw [Exit.noGoto_ret]
      go_ret2
      refine ⟨?_, hbw⟩
      rcases HP.out with ⟨e, rfl, rfl⟩ | ⟨k', e, rfl, rfl⟩
      · rfl
      · rw [HR.out] at e; cases e

set_option maxRecDepth 100000 in
set_option maxHeartbeats 8000000 in
theorem flaw_fo {w : World} {B : Nat} (t : Nat) {A : Option Addr} {l : List Fo} {n c : Nat} (hn : l.length = n) (hl : (n : Int) ≤ 1000000) (hr : RW fo w B A l) (hB : B ≤ w.heap.size) (ok : Fo → Prop)
    (hd : ∀ V, Below w.heap.size w V → ∀ q ∈ l, ∀ x : Bool, (x = true ↔ ok q) → Calls Try.prog 68 #[fov q, pt t] V fun e w' => e = .returned (.bool x) ∧ Below V.heap.size V w') (r : Option Nat) (hf : Flaw ok Fo.id l 0 0 r) (p : Int) (y : Bool) (hp : (r = none ∧ p = 0 ∧ y = false) ∨ ∃ k : Nat, r = some k ∧ p = (k : Int) ∧ y = true) :
    Calls Try.prog 66 #[.slice A n c, .func (.func 67) #[] #[], .func (.func 68) #[] #[pt t]] w fun e w' => e = .returned (.tuple #[.int .i64 p, .bool y]) ∧ Below w.heap.size w w' := by
  have HD := Lib.hid hd; have HRT := Lib.hid hr; have HK := Lib.hid hn; have HP := Lib.hid hp; have HF0 : Hid (Flaw ok Fo.id (l.drop 0) 0 0 r) := Lib.hid (by simpa using hf)
  clear hd hr hn hp hf
  go_enter Try.func66, Try.ntmps66
  go_wp2
  go_step3
  go_wp2
  go_step3
  go_wp2
  go_loopg [8, 9, 10, 15] n (fun m s8 s9 s10 s15 wr => ∃ (k : Nat) (last : Int), k ≤ n ∧ m = n - k ∧ s8 = .int .i64 last ∧ s9 = .int .i64 0 ∧ s10 = .bool false ∧ s15 = .int .i64 (k : Int) ∧ Hid (Flaw ok Fo.id (l.drop k) last k r) ∧ Hid (Below w.heap.size w wr))
  case atStart => exact ⟨0, 0, by omega, rfl, rfl, rfl, rfl, rfl, HF0, Lib.hid (Below.refl _ _)⟩
  case round =>
    obtain ⟨k, last, hk, rfl, rfl, rfl, rfl, rfl, HF, HW⟩ := hrel
    have hbw := HW.out
    have hws := HW.out.size
    by_cases hkl : k < n
    · have hkl' : (k : Int) < n := by omega
      obtain ⟨q, hq⟩ : ∃ q, l[k]? = some q := ⟨_, List.getElem?_eq_getElem (by rw [HK.out]; exact hkl)⟩
      obtain ⟨p0, off, hA, hpl, c0, c1, c2, c3, c4, c5, c6, c7⟩ := rowFo HRT.out hq HW.out hB
      subst hA
      have hp0 : p0 < wr.heap.size := by omega
      obtain ⟨x, hx⟩ := bex (ok q)
      have hqm : q ∈ l := List.mem_of_getElem? hq
      have HQ := Lib.hid hq; have HX := Lib.hid hx
      have HDq : Hid (∀ V, Below w.heap.size w V → Calls Try.prog 68 #[fov q, pt t] V fun e w' => e = .returned (.bool x) ∧ Below V.heap.size V w') := Lib.hid (fun V hV => HD.out V hV q hqm x hx)
      clear hq hx
      by_cases h64 : k = 64
      · have HR := Lib.hid (flaw_bad HQ.out HF.out (.inl h64))
        have h64' : ((k : Int) == 64) = true := by simp; omega
        clear h64
        go_wp2
        rw [Exit.noGoto_ret]
        go_ret2
        exact ⟨by rcases HP.out with ⟨e, _⟩ | ⟨k', e, rfl, rfl⟩
                  · rw [HR.out] at e; cases e
                  · rw [HR.out] at e; cases e; rfl, by first | assumption | go_grown⟩
      · have h64' : ((k : Int) == 64) = false := by simp; omega
        have H64 := Lib.hid h64
        clear h64
        by_cases hid : q.id ≤ last
        · have HR := Lib.hid (flaw_bad HQ.out HF.out (.inr (.inl hid)))
          go_wp2_with (first
            | ((with_reducible refine (foeId_any q _).mono ?_); rintro e w1 ⟨rfl, hB1⟩; have hV1 := bstep hB1 (V := w) (by go_grown); have g1 := fun o => hB1.cell (p := ⟨wr.heap.size, o, none⟩) (by go_size); have hs1 : wr.heap.size < w1.heap.size := Nat.lt_of_lt_of_le (by simp) hB1.size)
            | ((with_reducible refine (HDq.out _ hV1).mono ?_); rintro e w2 ⟨rfl, hB2⟩; have hV2 := bstep hB2 (V := w) hV1; have g2 := fun o => hB2.cell (p := ⟨wr.heap.size, o, none⟩) hs1)
            | ((with_reducible refine (foeId_any q _).mono ?_); rintro e w3 ⟨rfl, hB3⟩; have hV3 := bstep hB3 (V := w) hV2))
          rw [Exit.noGoto_ret]
          go_ret2
          exact ⟨by rcases HP.out with ⟨e, _⟩ | ⟨k', e, rfl, rfl⟩
                    · rw [HR.out] at e; cases e
                    · rw [HR.out] at e; cases e; rfl, by first | assumption | go_grown⟩
        · have hid' : decide (q.id ≤ last) = false := by simpa using hid
          have HI := Lib.hid hid
          clear hid
          cases x with
          | false =>
            have HR := Lib.hid (flaw_bad HQ.out HF.out (.inr (.inr (fun h => by have := HX.out.2 h; cases this))))
            clear HX
            go_wp2_with (first
            | ((with_reducible refine (foeId_any q _).mono ?_); rintro e w1 ⟨rfl, hB1⟩; have hV1 := bstep hB1 (V := w) (by go_grown); have g1 := fun o => hB1.cell (p := ⟨wr.heap.size, o, none⟩) (by go_size); have hs1 : wr.heap.size < w1.heap.size := Nat.lt_of_lt_of_le (by simp) hB1.size)
            | ((with_reducible refine (HDq.out _ hV1).mono ?_); rintro e w2 ⟨rfl, hB2⟩; have hV2 := bstep hB2 (V := w) hV1; have g2 := fun o => hB2.cell (p := ⟨wr.heap.size, o, none⟩) hs1)
            | ((with_reducible refine (foeId_any q _).mono ?_); rintro e w3 ⟨rfl, hB3⟩; have hV3 := bstep hB3 (V := w) hV2))
            rw [Exit.noGoto_ret]
            go_ret2
            exact ⟨by rcases HP.out with ⟨e, _⟩ | ⟨k', e, rfl, rfl⟩
                      · rw [HR.out] at e; cases e
                      · rw [HR.out] at e; cases e; rfl, by first | assumption | go_grown⟩
          | true =>
            have HF2 := Lib.hid (flaw_good HQ.out HF.out H64.out HI.out (HX.out.1 rfl))
            clear HX
            go_wp2_with (first
            | ((with_reducible refine (HDq.out _ hV1).mono ?_); rintro e w2 ⟨rfl, hB2⟩; have hV2 := bstep hB2 (V := w) hV1; have g2 := fun o => hB2.cell (p := ⟨wr.heap.size, o, none⟩) hs1)
            | ((with_reducible refine (foeId_any q w2).mono ?_); rintro e w3 ⟨rfl, hB3⟩; have hV3 := bstep hB3 (V := w) hV2)
            | ((with_reducible refine (foeId_any q _).mono ?_); rintro e w1 ⟨rfl, hB1⟩; have hV1 := bstep hB1 (V := w) (by go_grown); have g1 := fun o => hB1.cell (p := ⟨wr.heap.size, o, none⟩) (by go_size); have hs1 : wr.heap.size < w1.heap.size := Nat.lt_of_lt_of_le (by simp) hB1.size))
            go_roundg (n - (k + 1))
            case measure => omega
            case rel => exact ⟨k + 1, q.id, by omega, rfl, rfl, rfl, rfl, by go_num, HF2, Lib.hid hV3⟩
    · have hkl' : decide ((k : Int) < n) = false := by simp; omega
      have HR := Lib.hid (flaw_end (by have := HK.out; omega) HF.out)
      go_wp2
      rw [Exit.noGoto_ret]
      go_ret2
      refine ⟨?_, hbw⟩
      rcases HP.out with ⟨e, rfl, rfl⟩ | ⟨k', e, rfl, rfl⟩
      · rfl
      · rw [HR.out] at e; cases e
end Go.Proofs.Ytijobbdgiaiocaa.Con
