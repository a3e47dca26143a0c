/-
  Contract of Few: small enough, and then short in all its rows.
-/
import Derived.Test.YtijobbdgiaiocaaChk
import Derived.Deep.LoopGhost
namespace Go.Proofs.Ytijobbdgiaiocaa.Con
open Go.RowKit Go.Maps

/-- Small enough to be played. -/
def FewP (c : Cn) : Prop := (∀ (i : Nat) a, i < 100 → c.ab[i]? = some a → (a.eff.length : Int) ≤ 100) ∧ (∀ (i : Nat) f, i < 100 → c.fo[i]? = some f → (f.script.length : Int) ≤ 100 ∧ (f.hoard.length : Int) ≤ 100) ∧ (c.ab.length : Int) ≤ 70 ∧ (c.au.length : Int) ≤ 70 ∧ (c.fo.length : Int) ≤ 70 ∧ (c.wl.length : Int) ≤ 1024
theorem FewP.sm {c : Cn} (h : FewP c) : Sm c := by
  obtain ⟨h1, h2, h3, h4, h5, h6⟩ := h
  refine ⟨by omega, by omega, by omega, by omega, fun a ha => ?_, fun f hf => ?_, fun f hf => ?_⟩
  · obtain ⟨i, hi, rfl⟩ := List.getElem_of_mem ha
    have := h1 i _ (by omega) (List.getElem?_eq_getElem hi); omega
  · obtain ⟨i, hi, rfl⟩ := List.getElem_of_mem hf
    have := (h2 i _ (by omega) (List.getElem?_eq_getElem hi)).1; omega
  · obtain ⟨i, hi, rfl⟩ := List.getElem_of_mem hf
    have := (h2 i _ (by omega) (List.getElem?_eq_getElem hi)).2; omega
def FewT (c : Cn) : Prop := (c.ab.length : Int) ≤ 70 ∧ (c.au.length : Int) ≤ 70 ∧ (c.fo.length : Int) ≤ 70 ∧ (c.wl.length : Int) ≤ 1024
theorem few_of {c : Cn} (h1 : ∀ (i : Nat) a, i < 100 → c.ab[i]? = some a → (a.eff.length : Int) ≤ 100) (h2 : ∀ (i : Nat) f, i < 100 → c.fo[i]? = some f → (f.script.length : Int) ≤ 100 ∧ (f.hoard.length : Int) ≤ 100) : FewP c ↔ FewT c := by
  unfold FewP FewT; exact ⟨fun h => h.2.2, fun h => ⟨h1, h2, h⟩⟩
theorem few_next {α : Type} {P : α → Prop} {l : List α} {k : Nat} {a : α} (h : ∀ (i : Nat) x, i < k → l[i]? = some x → P x) (ha : l[k]? = some a) (hp : P a) : ∀ (i : Nat) x, i < k + 1 → l[i]? = some x → P x := by
  intro i x hi hx
  rcases Nat.lt_or_eq_of_le (Nat.le_of_lt_succ hi) with h' | rfl
  · exact h i x h' hx
  · rw [ha] at hx; rw [← Option.some.inj hx]; exact hp
theorem few_all {α : Type} {P : α → Prop} {l : List α} {k : Nat} (h : ∀ (i : Nat) x, i < k → l[i]? = some x → P x) (hk : 100 ≤ k ∨ l.length ≤ k) : ∀ (i : Nat) x, i < 100 → l[i]? = some x → P x := by
  intro i x hi hx
  have := (List.getElem?_eq_some_iff.1 hx).1
  exact h i x (by omega) hx


set_option maxRecDepth 40000 in
set_option maxHeartbeats 16000000 in
theorem few_c {w : World} {B : Nat} (c : Cn) (hr : RC w B c) (hB : B ≤ w.heap.size) (x : Bool) (hx : x = true ↔ FewP c) : Calls Try.prog 8 #[cnv c] w fun e w' => e = .returned (.bool x) ∧ Below w.heap.size w w' := by
  have hX : Below w.heap.size w (w.alloc (oCn c)) := by go_grown
  have HA := Lib.hid (at_cn w c)
  have HRab := Lib.hid (hr.abs.below hX hB); have HRfo := Lib.hid (hr.fos.below hX hB)
  have HX := Lib.hid hx; have HXV := Lib.hid hX
  clear hX hr hx
  go_enter Try.func8, Try.ntmps8
  go_wp2
  generalize w.alloc (oCn c) = V at *
  go_loopg [3] 100 (fun m s3 wr => ∃ k : Nat, k ≤ 100 ∧ m = 100 - k ∧ s3 = .int .i64 (k : Int) ∧ Hid (wr = V) ∧ Hid (∀ (i : Nat) a, i < k → c.ab[i]? = some a → (a.eff.length : Int) ≤ 100))
  case atStart => exact ⟨0, by omega, rfl, rfl, Lib.hid rfl, Lib.hid (fun i _ hi => by omega)⟩
  case round =>
    obtain ⟨k, hk, rfl, rfl, HW, HE⟩ := hrel
    have hwV : V = wr := HW.out.symm
    subst hwV
    obtain ⟨d0, d1, d2, d3, d4, d5, d6, d7, d8, d9⟩ := HA.out.ten
    by_cases hkn : k < c.ab.length
    · have hkl : (k : Int) < c.ab.length := by omega
      by_cases hk1 : k < 100
      · have hk2 : (k : Int) < 100 := by omega
        obtain ⟨a, ha⟩ : ∃ a, c.ab[k]? = some a := ⟨_, List.getElem?_eq_getElem hkn⟩
        obtain ⟨p, off, hA, hpl, c0, c1, c2, c3, c4, c5, c6, c7⟩ := rowAb HRab.out ha (Below.refl V.heap.size V) (by have h0 := HXV.out.size; omega)
        rw [hA] at d0
        have HS1 := Lib.hid ha; have HK1 := Lib.hid hk1
        clear ha hA
        by_cases hb : (100 : Int) < a.eff.length
        · have HBG := Lib.hid hb
          go_wp2
          go_ret
          exact ⟨of_iff HX.out ⟨fun h => (by cases h), fun h => absurd (h.1 k a HK1.out HS1.out) (by have := HBG.out; omega)⟩, by have h0 := HXV.out; go_grown⟩
        · have hbd : decide ((100 : Int) < a.eff.length) = false := by simp; omega
          have HE2 := Lib.hid (few_next (P := fun a : Ab => (a.eff.length : Int) ≤ 100) HE.out HS1.out (by omega))
          clear hb
          go_wp2
          go_roundg (100 - (k + 1))
          case measure => omega
          case rel => exact ⟨k + 1, by omega, rfl, by go_num, Lib.hid rfl, HE2⟩
      · have hk2 : decide ((k : Int) < 100) = false := by simp; omega
        have HTab := Lib.hid (few_all HE.out (by omega))
        clear HE hk1
        go_wp2
        clear hkn hkl hk2 hk
        clear d0 d1 d2 d3 d4 d5 d6 d7 d8 d9
        go_loopg [4] 100 (fun m s4 wr => ∃ k : Nat, k ≤ 100 ∧ m = 100 - k ∧ s4 = .int .i64 (k : Int) ∧ Hid (wr = V) ∧ Hid (∀ (i : Nat) a, i < k → c.fo[i]? = some a → (a.script.length : Int) ≤ 100 ∧ (a.hoard.length : Int) ≤ 100))
        case atStart => exact ⟨0, by omega, rfl, rfl, Lib.hid rfl, Lib.hid (fun i _ hi => by omega)⟩
        case round =>
          obtain ⟨k, hk, rfl, rfl, HW, HE⟩ := hrel
          have hwV : V = wr := HW.out.symm
          subst hwV
          obtain ⟨d0, d1, d2, d3, d4, d5, d6, d7, d8, d9⟩ := HA.out.ten
          by_cases hkn : k < c.fo.length
          · have hkl : (k : Int) < c.fo.length := by omega
            by_cases hk1 : k < 100
            · have hk2 : (k : Int) < 100 := by omega
              obtain ⟨a, ha⟩ : ∃ a, c.fo[k]? = some a := ⟨_, List.getElem?_eq_getElem hkn⟩
              obtain ⟨p, off, hA, hpl, c0, c1, c2, c3, c4, c5, c6, c7⟩ := rowFo HRfo.out ha (Below.refl V.heap.size V) (by have h0 := HXV.out.size; omega)
              rw [hA] at d2
              have HS1 := Lib.hid ha; have HK1 := Lib.hid hk1
              clear ha hA
              by_cases hb : (100 : Int) < a.script.length
              · have HBG := Lib.hid hb
                go_wp2
                go_ret
                exact ⟨of_iff HX.out ⟨fun h => (by cases h), fun h => absurd (h.2.1 k a HK1.out HS1.out).1 (by have := HBG.out; omega)⟩, by have h0 := HXV.out; go_grown⟩
              · have hbd : decide ((100 : Int) < a.script.length) = false := by simp; omega
                have HBD := Lib.hid hb
                clear hb
                by_cases hb2 : (100 : Int) < a.hoard.length
                · have HBG := Lib.hid hb2
                  go_wp2
                  go_ret
                  exact ⟨of_iff HX.out ⟨fun h => (by cases h), fun h => absurd (h.2.1 k a HK1.out HS1.out).2 (by have := HBG.out; omega)⟩, by have h0 := HXV.out; go_grown⟩
                · have hbd2 : decide ((100 : Int) < a.hoard.length) = false := by simp; omega
                  have HE2 := Lib.hid (few_next (P := fun f : Fo => (f.script.length : Int) ≤ 100 ∧ (f.hoard.length : Int) ≤ 100) HE.out HS1.out ⟨by have := HBD.out; omega, by omega⟩)
                  clear hb2
                  go_wp2
                  go_roundg (100 - (k + 1))
                  case measure => omega
                  case rel => exact ⟨k + 1, by omega, rfl, by go_num, Lib.hid rfl, HE2⟩
            · have hk2 : decide ((k : Int) < 100) = false := by simp; omega
              have HTfo := Lib.hid (few_all HE.out (by omega))
              clear HE hk1
              have HX2 := Lib.hid (HX.out.trans (few_of HTab.out HTfo.out))
              clear HTab HTfo HX
              go_wp2
              all_goals
                go_ret
                exact ⟨of_iff HX2.out (by clear HX2 HA HRab HRfo HXV; unfold FewT; simp_all <;> (intros; omega)), by have h0 := HXV.out; go_grown⟩
          · have hkl : decide ((k : Int) < c.fo.length) = false := by simp; omega
            have HTfo := Lib.hid (few_all HE.out (by omega))
            clear HE
            have HX2 := Lib.hid (HX.out.trans (few_of HTab.out HTfo.out))
            clear HTab HTfo HX
            go_wp2
            all_goals
              go_ret
              exact ⟨of_iff HX2.out (by clear HX2 HA HRab HRfo HXV; unfold FewT; simp_all <;> (intros; omega)), by have h0 := HXV.out; go_grown⟩
    · have hkl : decide ((k : Int) < c.ab.length) = false := by simp; omega
      have HTab := Lib.hid (few_all HE.out (by omega))
      clear HE
      go_wp2
      clear hkn hkl hk
      clear d0 d1 d2 d3 d4 d5 d6 d7 d8 d9
      go_loopg [4] 100 (fun m s4 wr => ∃ k : Nat, k ≤ 100 ∧ m = 100 - k ∧ s4 = .int .i64 (k : Int) ∧ Hid (wr = V) ∧ Hid (∀ (i : Nat) a, i < k → c.fo[i]? = some a → (a.script.length : Int) ≤ 100 ∧ (a.hoard.length : Int) ≤ 100))
      case atStart => exact ⟨0, by omega, rfl, rfl, Lib.hid rfl, Lib.hid (fun i _ hi => by omega)⟩
      case round =>
        obtain ⟨k, hk, rfl, rfl, HW, HE⟩ := hrel
        have hwV : V = wr := HW.out.symm
        subst hwV
        obtain ⟨d0, d1, d2, d3, d4, d5, d6, d7, d8, d9⟩ := HA.out.ten
        by_cases hkn : k < c.fo.length
        · have hkl : (k : Int) < c.fo.length := by omega
          by_cases hk1 : k < 100
          · have hk2 : (k : Int) < 100 := by omega
            obtain ⟨a, ha⟩ : ∃ a, c.fo[k]? = some a := ⟨_, List.getElem?_eq_getElem hkn⟩
            obtain ⟨p, off, hA, hpl, c0, c1, c2, c3, c4, c5, c6, c7⟩ := rowFo HRfo.out ha (Below.refl V.heap.size V) (by have h0 := HXV.out.size; omega)
            rw [hA] at d2
            have HS1 := Lib.hid ha; have HK1 := Lib.hid hk1
            clear ha hA
            by_cases hb : (100 : Int) < a.script.length
            · have HBG := Lib.hid hb
              go_wp2
              go_ret
              exact ⟨of_iff HX.out ⟨fun h => (by cases h), fun h => absurd (h.2.1 k a HK1.out HS1.out).1 (by have := HBG.out; omega)⟩, by have h0 := HXV.out; go_grown⟩
            · have hbd : decide ((100 : Int) < a.script.length) = false := by simp; omega
              have HBD := Lib.hid hb
              clear hb
              by_cases hb2 : (100 : Int) < a.hoard.length
              · have HBG := Lib.hid hb2
                go_wp2
                go_ret
                exact ⟨of_iff HX.out ⟨fun h => (by cases h), fun h => absurd (h.2.1 k a HK1.out HS1.out).2 (by have := HBG.out; omega)⟩, by have h0 := HXV.out; go_grown⟩
              · have hbd2 : decide ((100 : Int) < a.hoard.length) = false := by simp; omega
                have HE2 := Lib.hid (few_next (P := fun f : Fo => (f.script.length : Int) ≤ 100 ∧ (f.hoard.length : Int) ≤ 100) HE.out HS1.out ⟨by have := HBD.out; omega, by omega⟩)
                clear hb2
                go_wp2
                go_roundg (100 - (k + 1))
                case measure => omega
                case rel => exact ⟨k + 1, by omega, rfl, by go_num, Lib.hid rfl, HE2⟩
          · have hk2 : decide ((k : Int) < 100) = false := by simp; omega
            have HTfo := Lib.hid (few_all HE.out (by omega))
            clear HE hk1
            have HX2 := Lib.hid (HX.out.trans (few_of HTab.out HTfo.out))
            clear HTab HTfo HX
            go_wp2
            all_goals
              go_ret
              exact ⟨of_iff HX2.out (by clear HX2 HA HRab HRfo HXV; unfold FewT; simp_all <;> (intros; omega)), by have h0 := HXV.out; go_grown⟩
        · have hkl : decide ((k : Int) < c.fo.length) = false := by simp; omega
          have HTfo := Lib.hid (few_all HE.out (by omega))
          clear HE
          have HX2 := Lib.hid (HX.out.trans (few_of HTab.out HTfo.out))
          clear HTab HTfo HX
          go_wp2
          all_goals
            go_ret
            exact ⟨of_iff HX2.out (by clear HX2 HA HRab HRfo HXV; unfold FewT; simp_all <;> (intros; omega)), by have h0 := HXV.out; go_grown⟩

end Go.Proofs.Ytijobbdgiaiocaa.Con
