/-
  Contracts of copyRows: rows in new memory, each with rows of its own.
-/
import Derived.Test.YtekpbdjnfobobaaPws
namespace Go.Proofs.Ytekpbdjnfobobaa.Con
open Go.RowKit Go.Maps

theorem eight (V : World) (p o : Nat) (v0 v1 v2 v3 v4 v5 v6 v7 : Value) : (((((((V.setCell ⟨p, o, none⟩ v0).setCell ⟨p, o + 1, none⟩ v1).setCell ⟨p, o + 2, none⟩ v2).setCell ⟨p, o + 3, none⟩ v3).setCell ⟨p, o + 4, none⟩ v4).setCell ⟨p, o + 5, none⟩ v5).setCell ⟨p, o + 6, none⟩ v6).setCell ⟨p, o + 7, none⟩ v7 = V.setCells p o [v0, v1, v2, v3, v4, v5, v6, v7] := rfl
/-- Up to k the rows are copies, from there on they are the rows themselves. -/
def Half {α : Type} (pl : α → α) (l l' : List α) (k : Nat) : Prop := l'.length = l.length ∧ ∀ i x y, l[i]? = some x → l'[i]? = some y → (i < k → pl y = pl x) ∧ (k ≤ i → y = x)
theorem Half.zero {α : Type} {pl : α → α} (l : List α) : Half pl l l 0 := ⟨rfl, fun i x y hx hy => ⟨fun h => absurd h (Nat.not_lt_zero _), fun _ => by rw [hx] at hy; exact (Option.some.inj hy).symm⟩⟩
theorem Half.next {α : Type} {pl : α → α} {l l' : List α} {k : Nat} (h : Half pl l l' k) {x : α} (hx : l[k]? = some x) (z : α) (hz : pl z = pl x) : Half pl l (l'.set k z) (k + 1) := by
  refine ⟨by simpa using h.1, fun i a b ha hb => ?_⟩
  rw [List.getElem?_set] at hb
  by_cases hik : k = i
  · subst hik
    rw [if_pos rfl] at hb
    have hlt : k < l'.length := by rw [h.1]; exact (List.getElem?_eq_some_iff.1 hx).1
    rw [if_pos hlt] at hb
    have e1 := Option.some.inj hb
    rw [hx] at ha
    have e2 := Option.some.inj ha
    subst e1; subst e2
    exact ⟨fun _ => hz, fun h => absurd h (by omega)⟩
  · rw [if_neg hik] at hb
    have := h.2 i a b ha hb
    exact ⟨fun h => this.1 (by omega), fun h => this.2 (by omega)⟩
theorem Half.done {α : Type} {pl : α → α} {l l' : List α} {k : Nat} (h : Half pl l l' k) (hk : l.length ≤ k) : l'.map pl = l.map pl := by
  rw [map_iff]
  refine ⟨h.1, fun i x y hx hy => ?_⟩
  exact (h.2 i y x hy hx).1 (Nat.lt_of_lt_of_le (List.getElem?_eq_some_iff.1 hy).1 hk)
theorem Half.get {α : Type} {pl : α → α} {l l' : List α} {k : Nat} (h : Half pl l l' k) {x : α} (hx : l[k]? = some x) : l'[k]? = some x := by
  have hlt : k < l'.length := by rw [h.1]; exact (List.getElem?_eq_some_iff.1 hx).1
  have := (h.2 k x _ hx (List.getElem?_eq_getElem hlt)).2 (Nat.le_refl _)
  rw [List.getElem?_eq_getElem hlt, this]
theorem set_get {α : Type} {l : List α} {k i : Nat} {z y : α} (h : (l.set k z)[i]? = some y) : (i = k ∧ y = z) ∨ (i ≠ k ∧ l[i]? = some y) := by
  rw [List.getElem?_set] at h
  split at h
  · rename_i e
    split at h
    · exact .inl ⟨e.symm, (Option.some.inj h).symm⟩
    · cases h
  · rename_i e
    exact .inr ⟨fun h => e h.symm, h⟩


/-- Rows that were copied, each with rows of its own. -/
def CrAb (w : World) (l : List Ab) (n : Nat) (e : Ending) (w' : World) : Prop := ∃ A' c' l', e = .returned (.slice A' n c') ∧ Hid (l'.length = n) ∧ Hid (l'.map Ab.pl = l.map Ab.pl) ∧ Hid (PW ab w' w.heap.size A' l') ∧ Hid (∀ a ∈ l', PW ef w' w.heap.size a.ea a.eff) ∧ Below w.heap.size w w'

set_option maxRecDepth 20000 in
set_option maxHeartbeats 8000000 in
theorem crows_ab {w : World} {B : Nat} {A : Option Addr} {l : List Ab} {n c : Nat} (hn : l.length = n) (hr : RW ab w B A l) (he : ∀ a ∈ l, RW ef w B a.ea a.eff) (hle : ∀ a ∈ l, (a.eff.length : Int) ≤ 100) (hB : B ≤ w.heap.size) (hl : (n : Int) ≤ 1000) :
    Calls Try.prog 35 #[.slice A n c, .func (.func 29) #[] #[]] w (CrAb w l n) := by
  have HC := Lib.hid (clone_ab A c l n hn w B hr hB (by omega))
  have HCp : Hid (∀ V, Below w.heap.size w V → ∀ a ∈ l, Calls Try.prog 29 #[abv a] V (CpA V a)) := Lib.hid (fun V hV a ha => copyAb a ((he a ha).below hV hB) (Nat.le_trans hB hV.size) (hle a ha))
  have HN := Lib.hid hn
  clear hr he hle hn
  go_enter Try.func35, Try.ntmps35
  go_wp2_with (first | ((with_reducible refine HC.out.mono ?_); rintro e w1 ⟨A', c', rfl, HO, hB1⟩))
  have HP0 := Lib.hid HO.out.pw
  have hs1 := hB1.size
  have HB1 := Lib.hid hB1
  clear HO hB1 HC
  go_loopg [12] n (fun m s12 wr => ∃ (k : Nat) (l' : List Ab), k ≤ n ∧ m = n - k ∧ s12 = .int .i64 (k : Int) ∧ Hid (Below w.heap.size w wr) ∧ Hid (w1.heap.size ≤ wr.heap.size) ∧ Hid (Half Ab.pl l l' k) ∧ Hid (PW ab wr w.heap.size A' l') ∧ Hid (∀ b off, l ≠ [] → A' = some ⟨b, off, none⟩ → b < w1.heap.size) ∧ Hid (∀ i a, i < k → l'[i]? = some a → PW ef wr w1.heap.size a.ea a.eff))
  case atStart => exact ⟨0, l, by omega, rfl, rfl, HB1, Lib.hid (Nat.le_refl _), Lib.hid (Half.zero l), HP0, Lib.hid (fun b off hne hA => by
      rcases HP0.out with h | ⟨b', off', hA', _, hlt, _⟩
      · exact absurd h hne
      · rw [hA] at hA'; injection hA' with e; injection e with e1; omega), Lib.hid (fun i _ hi => by omega)⟩
  case round =>
    obtain ⟨k, l', hk, rfl, rfl, HW, HZ, HH, HP, HBk, HE⟩ := hrel
    by_cases hkn : k < n
    · have hkl' : (k : Int) < n := by omega
      obtain ⟨b, hb⟩ : ∃ b, l[k]? = some b := ⟨_, List.getElem?_eq_getElem (by rw [HN.out]; exact hkn)⟩
      obtain ⟨p, off, hA, hpN, hpl, hcs, hfz⟩ := HP.out.at' (HH.out.get hb)
      have hp1 : p < w1.heap.size := HBk.out p off (by intro e; rw [e] at hb; cases hb) hA
      subst hA
      have hcs' : ∀ j v, (encAb b)[j]? = some v → wr.cell? ⟨p, off + k * 8 + j, none⟩ = some v := hcs
      obtain ⟨c0, c1, c2, c3, c4, c5, c6, c7⟩ := cellsAb hcs'
      have HBB := Lib.hid hb; have HFZ := Lib.hid hfz; have HPN := Lib.hid hpN; have HPL := Lib.hid hpl; have HP1 := Lib.hid hp1
      have hbw := HW.out
      have hws := HW.out.size
      clear hb hfz hcs hcs' hpN hp1
      have hba : Below wr.heap.size wr (wr.alloc (oAb b)) := (Below.refl _ wr).alloc (Nat.le_refl _) _
      have hwa : Below w.heap.size w (wr.alloc (oAb b)) := hbw.trans (hba.mono hws)
      have hfa : ∀ o, (wr.alloc (oAb b)).frozen? ⟨p, o, none⟩ = false := fun o => (hba.frozen (p := ⟨p, o, none⟩) hpl).trans (HFZ.out o)
      have hsa : p < (wr.alloc (oAb b)).heap.size := by simp; omega
      have HWA := Lib.hid hwa; have HFA := Lib.hid hfa; have HSA := Lib.hid hsa; have HBA := Lib.hid hba
      clear hba hwa hfa hsa
      go_wp2_with (first | ((with_reducible refine (HCp.out _ HWA.out b (List.mem_of_getElem? HBB.out)).mono ?_); rintro e w2 ⟨A2, c2', rfl, HO2, hB2⟩; have g := fun o => hB2.cell (p := ⟨p, o, none⟩) HSA.out; have y := fun o => (hB2.frozen (p := ⟨p, o, none⟩) HSA.out).trans (HFA.out o); have hB3 : Below wr.heap.size wr w2 := bstep hB2 HBA.out))
      go_roundg (n - (k + 1))
      case measure => omega
      case rel =>
        have hs3 := hB3.size
        have hz := HZ.out
        have hkl2 : k < l'.length := by rw [HH.out.1, HN.out]; exact hkn
        have hP2 : PW ab (w2.setCells p (off + k * 8) (encAb (b.re A2 c2'))) w.heap.size (some ⟨p, off, none⟩) (l'.set k (b.re A2 c2')) := (HP.out.of hB3).put (k := k) rfl hkl2 (b.re A2 c2')
        rw [eight]
        refine ⟨k + 1, l'.set k (b.re A2 c2'), by omega, rfl, by go_num, Lib.hid ?_, Lib.hid ?_, Lib.hid (HH.out.next HBB.out _ rfl), Lib.hid ?_, HBk, Lib.hid ?_⟩
        · exact below_setCells p HPN.out _ (off + k * 8) w2 (HW.out.trans (hB3.mono hws))
        · rw [size_setCells]
          exact Nat.le_trans hz hs3
        · exact hP2
        · intro i a hi ha
          rcases set_get ha with ⟨_, rfl⟩ | ⟨hik, ha'⟩
          · exact PW.setC ((HO2.out.pw).mono (by simp; omega)) HP1.out _ _
          · have h0 := HE.out i a (by omega) ha'
            exact (h0.of hB3).setC HP1.out _ _
    · have hkl' : decide ((k : Int) < n) = false := by simp; omega
      go_wp2
      go_ret
      have hlk : l.length ≤ k := by rw [HN.out]; omega
      exact ⟨A', c', l', rfl, Lib.hid (by rw [HH.out.1, HN.out]), Lib.hid (HH.out.done hlk), HP, Lib.hid (fun a ha => by
        obtain ⟨i, hi, rfl⟩ := List.getElem_of_mem ha
        have h0 := HE.out i _ (by have := HH.out.1; omega) (List.getElem?_eq_getElem hi)
        exact h0.mono hs1), HW.out⟩


/-- Rows that were copied, each with rows of its own. -/
def CrFo (w : World) (l : List Fo) (n : Nat) (e : Ending) (w' : World) : Prop := ∃ A' c' l', e = .returned (.slice A' n c') ∧ Hid (l'.length = n) ∧ Hid (l'.map Fo.pl = l.map Fo.pl) ∧ Hid (PW fo w' w.heap.size A' l') ∧ Hid (∀ a ∈ l', PW ln w' w.heap.size a.sa a.script ∧ PW pz w' w.heap.size a.ha a.hoard) ∧ Below w.heap.size w w'

set_option maxRecDepth 20000 in
set_option maxHeartbeats 8000000 in
theorem crows_fo {w : World} {B : Nat} {A : Option Addr} {l : List Fo} {n c : Nat} (hn : l.length = n) (hr : RW fo w B A l) (he : ∀ a ∈ l, RW ln w B a.sa a.script) (hh : ∀ a ∈ l, RW pz w B a.ha a.hoard) (hle : ∀ a ∈ l, (a.script.length : Int) ≤ 100) (hlh : ∀ a ∈ l, (a.hoard.length : Int) ≤ 100) (hB : B ≤ w.heap.size) (hl : (n : Int) ≤ 1000) :
    Calls Try.prog 37 #[.slice A n c, .func (.func 34) #[] #[]] w (CrFo w l n) := by
  have HC := Lib.hid (clone_fo A c l n hn w B hr hB (by omega))
  have HCp : Hid (∀ V, Below w.heap.size w V → ∀ a ∈ l, Calls Try.prog 34 #[fov a] V (CpF V a)) := Lib.hid (fun V hV a ha => copyFo a ((he a ha).below hV hB) ((hh a ha).below hV hB) (Nat.le_trans hB hV.size) (hle a ha) (hlh a ha))
  have HN := Lib.hid hn
  clear hr he hh hle hlh hn
  go_enter Try.func37, Try.ntmps37
  go_wp2_with (first | ((with_reducible refine HC.out.mono ?_); rintro e w1 ⟨A', c', rfl, HO, hB1⟩))
  have HP0 := Lib.hid HO.out.pw
  have hs1 := hB1.size
  have HB1 := Lib.hid hB1
  clear HO hB1 HC
  go_loopg [12] n (fun m s12 wr => ∃ (k : Nat) (l' : List Fo), k ≤ n ∧ m = n - k ∧ s12 = .int .i64 (k : Int) ∧ Hid (Below w.heap.size w wr) ∧ Hid (w1.heap.size ≤ wr.heap.size) ∧ Hid (Half Fo.pl l l' k) ∧ Hid (PW fo wr w.heap.size A' l') ∧ Hid (∀ b off, l ≠ [] → A' = some ⟨b, off, none⟩ → b < w1.heap.size) ∧ Hid (∀ i a, i < k → l'[i]? = some a → PW ln wr w1.heap.size a.sa a.script ∧ PW pz wr w1.heap.size a.ha a.hoard))
  case atStart => exact ⟨0, l, by omega, rfl, rfl, HB1, Lib.hid (Nat.le_refl _), Lib.hid (Half.zero l), HP0, Lib.hid (fun b off hne hA => by
      rcases HP0.out with h | ⟨b', off', hA', _, hlt, _⟩
      · exact absurd h hne
      · rw [hA] at hA'; injection hA' with e; injection e with e1; omega), Lib.hid (fun i _ hi => by omega)⟩
  case round =>
    obtain ⟨k, l', hk, rfl, rfl, HW, HZ, HH, HP, HBk, HE⟩ := hrel
    by_cases hkn : k < n
    · have hkl' : (k : Int) < n := by omega
      obtain ⟨b, hb⟩ : ∃ b, l[k]? = some b := ⟨_, List.getElem?_eq_getElem (by rw [HN.out]; exact hkn)⟩
      obtain ⟨p, off, hA, hpN, hpl, hcs, hfz⟩ := HP.out.at' (HH.out.get hb)
      have hp1 : p < w1.heap.size := HBk.out p off (by intro e; rw [e] at hb; cases hb) hA
      subst hA
      have hcs' : ∀ j v, (encFo b)[j]? = some v → wr.cell? ⟨p, off + k * 8 + j, none⟩ = some v := hcs
      obtain ⟨c0, c1, c2, c3, c4, c5, c6, c7⟩ := cellsFo hcs'
      have HBB := Lib.hid hb; have HFZ := Lib.hid hfz; have HPN := Lib.hid hpN; have HPL := Lib.hid hpl; have HP1 := Lib.hid hp1
      have hbw := HW.out
      have hws := HW.out.size
      clear hb hfz hcs hcs' hpN hp1
      have hba : Below wr.heap.size wr (wr.alloc (oFo b)) := (Below.refl _ wr).alloc (Nat.le_refl _) _
      have hwa : Below w.heap.size w (wr.alloc (oFo b)) := hbw.trans (hba.mono hws)
      have hfa : ∀ o, (wr.alloc (oFo b)).frozen? ⟨p, o, none⟩ = false := fun o => (hba.frozen (p := ⟨p, o, none⟩) hpl).trans (HFZ.out o)
      have hsa : p < (wr.alloc (oFo b)).heap.size := by simp; omega
      have HWA := Lib.hid hwa; have HFA := Lib.hid hfa; have HSA := Lib.hid hsa; have HBA := Lib.hid hba
      clear hba hwa hfa hsa
      go_wp2_with (first | ((with_reducible refine (HCp.out _ HWA.out b (List.mem_of_getElem? HBB.out)).mono ?_); rintro e w2 ⟨A2, c2', A3, c3', rfl, HO2, HO3, hB2⟩; have g := fun o => hB2.cell (p := ⟨p, o, none⟩) HSA.out; have y := fun o => (hB2.frozen (p := ⟨p, o, none⟩) HSA.out).trans (HFA.out o); have hB3 : Below wr.heap.size wr w2 := bstep hB2 HBA.out))
      go_roundg (n - (k + 1))
      case measure => omega
      case rel =>
        have hs3 := hB3.size
        have hz := HZ.out
        have hkl2 : k < l'.length := by rw [HH.out.1, HN.out]; exact hkn
        have hP2 : PW fo (w2.setCells p (off + k * 8) (encFo (b.re A2 c2' A3 c3'))) w.heap.size (some ⟨p, off, none⟩) (l'.set k (b.re A2 c2' A3 c3')) := (HP.out.of hB3).put (k := k) rfl hkl2 (b.re A2 c2' A3 c3')
        rw [eight]
        refine ⟨k + 1, l'.set k (b.re A2 c2' A3 c3'), by omega, rfl, by go_num, Lib.hid ?_, Lib.hid ?_, Lib.hid (HH.out.next HBB.out _ rfl), Lib.hid ?_, HBk, Lib.hid ?_⟩
        · exact below_setCells p HPN.out _ (off + k * 8) w2 (HW.out.trans (hB3.mono hws))
        · rw [size_setCells]
          exact Nat.le_trans hz hs3
        · exact hP2
        · intro i a hi ha
          rcases set_get ha with ⟨_, rfl⟩ | ⟨hik, ha'⟩
          · exact ⟨PW.setC ((HO2.out.pw).mono (by simp; omega)) HP1.out _ _, PW.setC ((HO3.out.pw).mono (by simp; omega)) HP1.out _ _⟩
          · have h0 := HE.out i a (by omega) ha'
            exact ⟨(h0.1.of hB3).setC HP1.out _ _, (h0.2.of hB3).setC HP1.out _ _⟩
    · have hkl' : decide ((k : Int) < n) = false := by simp; omega
      go_wp2
      go_ret
      have hlk : l.length ≤ k := by rw [HN.out]; omega
      exact ⟨A', c', l', rfl, Lib.hid (by rw [HH.out.1, HN.out]), Lib.hid (HH.out.done hlk), HP, Lib.hid (fun a ha => by
        obtain ⟨i, hi, rfl⟩ := List.getElem_of_mem ha
        have h0 := HE.out i _ (by have := HH.out.1; omega) (List.getElem?_eq_getElem hi)
        exact ⟨h0.1.mono hs1, h0.2.mono hs1⟩), HW.out⟩

end Go.Proofs.Ytekpbdjnfobobaa.Con
