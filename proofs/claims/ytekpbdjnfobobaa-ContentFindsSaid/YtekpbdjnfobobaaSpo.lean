/-
  Contract of spoil: what it writes over lies in blocks from N on.
-/
import Derived.Test.YtekpbdjnfobobaaPws
import Derived.Deep.LoopGhost
import Derived.StillTailTactics
namespace Go.Proofs.Ytekpbdjnfobobaa.Con
open Go.RowKit Go.Maps

/-- What writing over leaves: slices are as they were, numbers are numbers. -/
structure Sp (N : Nat) (w w' : World) : Prop where
  below : Below N w w'
  sl : ∀ p a n c, w.cell? p = some (.slice a n c) → w'.cell? p = some (.slice a n c)
  nu : ∀ p m, w.cell? p = some (.int .i64 m) → ∃ m', w'.cell? p = some (.int .i64 m')
  bo : ∀ p b, w.cell? p = some (.bool b) → ∃ b', w'.cell? p = some (.bool b')
  fz : ∀ p, w'.frozen? p = w.frozen? p
theorem Sp.refl (N : Nat) (w : World) : Sp N w w := ⟨Below.refl _ _, fun _ _ _ _ h => h, fun _ m h => ⟨m, h⟩, fun _ b h => ⟨b, h⟩, fun _ => rfl⟩
theorem Sp.drew {N : Nat} {w w' : World} (h : Sp N w w') : Sp N w w'.drew := ⟨h.below.drew, h.sl, h.nu, h.bo, h.fz⟩
theorem Sp.int {N : Nat} {w w' : World} (h : Sp N w w') {p : Addr} (hp : N ≤ p.block) {m : Int} (hc : w'.cell? p = some (.int .i64 m)) (v : Int) : Sp N w (w'.setCell p (.int .i64 v)) := by
  refine ⟨h.below.setCell hp _, fun q a n c hq => ?_, fun q m' hq => ?_, fun q b hq => ?_, fun q => by rw [World.frozen?_setCell]; exact h.fz q⟩
  · by_cases e : p = q
    · subst e; have := h.sl _ _ _ _ hq; rw [hc] at this; cases this
    · rw [World.cell?_setCell_other _ _ _ _ e]; exact h.sl _ _ _ _ hq
  · by_cases e : p = q
    · subst e; exact ⟨v, World.cell?_setCell_same _ _ _ hc⟩
    · rw [World.cell?_setCell_other _ _ _ _ e]; exact h.nu _ _ hq
  · by_cases e : p = q
    · subst e; obtain ⟨b', this⟩ := h.bo _ _ hq; rw [hc] at this; cases this
    · rw [World.cell?_setCell_other _ _ _ _ e]; exact h.bo _ _ hq
theorem Sp.bool {N : Nat} {w w' : World} (h : Sp N w w') {p : Addr} (hp : N ≤ p.block) {m : Bool} (hc : w'.cell? p = some (.bool m)) (v : Bool) : Sp N w (w'.setCell p (.bool v)) := by
  refine ⟨h.below.setCell hp _, fun q a n c hq => ?_, fun q m' hq => ?_, fun q b hq => ?_, fun q => by rw [World.frozen?_setCell]; exact h.fz q⟩
  · by_cases e : p = q
    · subst e; have := h.sl _ _ _ _ hq; rw [hc] at this; cases this
    · rw [World.cell?_setCell_other _ _ _ _ e]; exact h.sl _ _ _ _ hq
  · by_cases e : p = q
    · subst e; obtain ⟨b', this⟩ := h.nu _ _ hq; rw [hc] at this; cases this
    · rw [World.cell?_setCell_other _ _ _ _ e]; exact h.nu _ _ hq
  · by_cases e : p = q
    · subst e; exact ⟨v, World.cell?_setCell_same _ _ _ hc⟩
    · rw [World.cell?_setCell_other _ _ _ _ e]; exact h.bo _ _ hq

theorem spAb {V : World} {N : Nat} {A : Option Addr} {l : List Ab} (h : PW ab V N A l) {k : Nat} {a : Ab} (ha : l[k]? = some a) :
    ∃ b off, A = some ⟨b, off, none⟩ ∧ N ≤ b ∧ ∀ W, Sp N V W → W.cell? ⟨b, off + k * 8 + 7, none⟩ = some (.slice a.ea a.eff.length a.ec) ∧ (∃ m, W.cell? ⟨b, off + k * 8, none⟩ = some (.int .i64 m)) ∧ W.frozen? ⟨b, off + k * 8, none⟩ = false := by
  obtain ⟨b, off, hA, hN, hlt, hc, hf⟩ := h.at' ha
  exact ⟨b, off, hA, hN, fun W hW => ⟨hW.sl _ _ _ _ (hc 7 _ rfl), hW.nu _ _ (hc 0 _ rfl), (hW.fz _).trans (hf _)⟩⟩

theorem spEf {V : World} {N : Nat} {A : Option Addr} {l : List Ef} (h : PW ef V N A l) {k : Nat} {a : Ef} (ha : l[k]? = some a) :
    ∃ b off, A = some ⟨b, off, none⟩ ∧ N ≤ b ∧ ∀ W, Sp N V W → (∃ m, W.cell? ⟨b, off + k * 3, none⟩ = some (.int .i64 m)) ∧ W.frozen? ⟨b, off + k * 3, none⟩ = false := by
  obtain ⟨b, off, hA, hN, hlt, hc, hf⟩ := h.at' ha
  exact ⟨b, off, hA, hN, fun W hW => ⟨hW.nu _ _ (hc 0 _ rfl), (hW.fz _).trans (hf _)⟩⟩

theorem spAu {V : World} {N : Nat} {A : Option Addr} {l : List Au} (h : PW au V N A l) {k : Nat} {a : Au} (ha : l[k]? = some a) :
    ∃ b off, A = some ⟨b, off, none⟩ ∧ N ≤ b ∧ ∀ W, Sp N V W → (∃ m, W.cell? ⟨b, off + k * 7, none⟩ = some (.int .i64 m)) ∧ W.frozen? ⟨b, off + k * 7, none⟩ = false := by
  obtain ⟨b, off, hA, hN, hlt, hc, hf⟩ := h.at' ha
  exact ⟨b, off, hA, hN, fun W hW => ⟨hW.nu _ _ (hc 0 _ rfl), (hW.fz _).trans (hf _)⟩⟩

theorem spFo {V : World} {N : Nat} {A : Option Addr} {l : List Fo} (h : PW fo V N A l) {k : Nat} {a : Fo} (ha : l[k]? = some a) :
    ∃ b off, A = some ⟨b, off, none⟩ ∧ N ≤ b ∧ ∀ W, Sp N V W → W.cell? ⟨b, off + k * 8 + 5, none⟩ = some (.slice a.sa a.script.length a.sc) ∧ W.cell? ⟨b, off + k * 8 + 6, none⟩ = some (.slice a.ha a.hoard.length a.hc) ∧ (∃ m, W.cell? ⟨b, off + k * 8, none⟩ = some (.int .i64 m)) ∧ W.frozen? ⟨b, off + k * 8, none⟩ = false := by
  obtain ⟨b, off, hA, hN, hlt, hc, hf⟩ := h.at' ha
  exact ⟨b, off, hA, hN, fun W hW => ⟨hW.sl _ _ _ _ (hc 5 _ rfl), hW.sl _ _ _ _ (hc 6 _ rfl), hW.nu _ _ (hc 0 _ rfl), (hW.fz _).trans (hf _)⟩⟩

theorem spLn {V : World} {N : Nat} {A : Option Addr} {l : List Ln} (h : PW ln V N A l) {k : Nat} {a : Ln} (ha : l[k]? = some a) :
    ∃ b off, A = some ⟨b, off, none⟩ ∧ N ≤ b ∧ ∀ W, Sp N V W → (∃ m, W.cell? ⟨b, off + k * 5 + 3, none⟩ = some (.int .i64 m)) ∧ W.frozen? ⟨b, off + k * 5 + 3, none⟩ = false := by
  obtain ⟨b, off, hA, hN, hlt, hc, hf⟩ := h.at' ha
  exact ⟨b, off, hA, hN, fun W hW => ⟨hW.nu _ _ (hc 3 _ rfl), (hW.fz _).trans (hf _)⟩⟩

theorem spPz {V : World} {N : Nat} {A : Option Addr} {l : List Pz} (h : PW pz V N A l) {k : Nat} {a : Pz} (ha : l[k]? = some a) :
    ∃ b off, A = some ⟨b, off, none⟩ ∧ N ≤ b ∧ ∀ W, Sp N V W → (∃ m, W.cell? ⟨b, off + k * 2, none⟩ = some (.int .i64 m)) ∧ W.frozen? ⟨b, off + k * 2, none⟩ = false := by
  obtain ⟨b, off, hA, hN, hlt, hc, hf⟩ := h.at' ha
  exact ⟨b, off, hA, hN, fun W hW => ⟨hW.nu _ _ (hc 0 _ rfl), (hW.fz _).trans (hf _)⟩⟩

theorem spBo {V : World} {N : Nat} {A : Option Addr} {l : List Bool} (h : PW bo V N A l) {k : Nat} {a : Bool} (ha : l[k]? = some a) :
    ∃ b off, A = some ⟨b, off, none⟩ ∧ N ≤ b ∧ ∀ W, Sp N V W → (∃ m, W.cell? ⟨b, off + k, none⟩ = some (.bool m)) ∧ W.frozen? ⟨b, off + k, none⟩ = false := by
  obtain ⟨b, off, hA, hN, hlt, hc, hf⟩ := h.at' ha
  exact ⟨b, off, hA, hN, fun W hW => ⟨hW.bo _ _ ((by have := hc 0 _ rfl; simpa [bo] using this)), (hW.fz _).trans (hf _)⟩⟩


set_option maxRecDepth 40000 in
set_option maxHeartbeats 16000000 in
theorem spoil_c {w : World} {N : Nat} (c : Cn) (hp : PC w N c) (hN : N ≤ w.heap.size) (hs : Sm c) : Calls Try.prog 18 #[cnv c] w fun e w' => e = .returned (.tuple #[]) ∧ Below N w w' := by
  have hX : Below w.heap.size w (w.alloc (oCn c)) := by go_grown
  have hA0 := at_cn w c
  have HP := Lib.hid (hp.of hX)
  have HabL := Lib.hid hs.abs; have HauL := Lib.hid hs.aus; have HfoL := Lib.hid hs.fos; have HwlL := Lib.hid hs.wls
  have HM := Lib.hid hs
  have HXw := Lib.hid (hX.mono hN)
  have HUab := Lib.hid (hA0 0 _ rfl); have HUau := Lib.hid (hA0 1 _ rfl); have HUfo := Lib.hid (hA0 2 _ rfl); have HUwl := Lib.hid (hA0 5 _ rfl)
  clear hX hA0 hp hs
  go_enter Try.func18, Try.ntmps18
  go_wp2
  generalize w.alloc (oCn c) = V at *
  have HSP := Lib.hid (Sp.refl N V)
  go_loopg [2] c.ab.length (fun m s2 wr => ∃ k : Nat, k ≤ c.ab.length ∧ m = c.ab.length - k ∧ s2 = .int .i64 (k : Int) ∧ Hid (Sp N V wr))
  case atStart => exact ⟨0, by omega, rfl, rfl, HSP⟩
  case round =>
    obtain ⟨k, hk, rfl, rfl, HSP⟩ := hrel
    have hl0 := HabL.out
    have u0 := HSP.out.sl _ _ _ _ HUab.out
    have HU := HUab
    by_cases hkn : k < c.ab.length
    · have hkl : (k : Int) < c.ab.length := by omega
      obtain ⟨a, ha⟩ : ∃ a, c.ab[k]? = some a := ⟨_, List.getElem?_eq_getElem hkn⟩
      obtain ⟨b, off, hA, hN1, hG⟩ := spAb HP.out.abs ha
      have HG := Lib.hid hG; have HN1 := Lib.hid hN1
      clear hG hN1
      have aeffP := Lib.hid (HP.out.effs a (List.mem_of_getElem? ha)); have aeffL := Lib.hid (HM.out.effs a (List.mem_of_getElem? ha))
      clear ha
      rw [hA] at u0
      go_wp2
      go_loopg [3] a.eff.length (fun m2 s3 wq => ∃ j : Nat, j ≤ a.eff.length ∧ m2 = a.eff.length - j ∧ s3 = .int .i64 (j : Int) ∧ Hid (Sp N V wq))
      case atStart => exact ⟨0, by omega, rfl, rfl, HSP⟩
      case round =>
        obtain ⟨j, hj, rfl, rfl, HSP⟩ := hrel
        have u0 := HSP.out.sl _ _ _ _ HU.out
        rw [hA] at u0
        obtain ⟨c7, ⟨m0, x0⟩, f0⟩ := HG.out _ HSP.out
        have hl9 := aeffL.out
        by_cases hjn : j < a.eff.length
        · have hjl : (j : Int) < a.eff.length := by omega
          obtain ⟨t, ht⟩ : ∃ t, a.eff[j]? = some t := ⟨_, List.getElem?_eq_getElem hjn⟩
          obtain ⟨q, of2, hA2, hN2, hG2⟩ := spEf (aeffP.out) ht
          obtain ⟨⟨m1, x1⟩, f1⟩ := hG2 _ HSP.out
          rw [hA2] at c7
          have HN2 := Lib.hid hN2
          clear ht hG2 hN2 hA2
          go_wp2
          go_roundg (a.eff.length - (j + 1))
          case measure => omega
          case rel => exact ⟨j + 1, by omega, rfl, by go_num, Lib.hid (HSP.out.int HN2.out x1 _)⟩
        · have hjl : decide ((j : Int) < a.eff.length) = false := by simp; omega
          go_wp2
          go_roundg (c.ab.length - (k + 1))
          case measure => omega
          case rel => exact ⟨k + 1, by omega, rfl, by go_num, Lib.hid (HSP.out.int HN1.out x0 _)⟩
    · have hkl : decide ((k : Int) < c.ab.length) = false := by simp; omega
      go_wp2
      go_loopg [4] c.au.length (fun m s4 wr => ∃ k : Nat, k ≤ c.au.length ∧ m = c.au.length - k ∧ s4 = .int .i64 (k : Int) ∧ Hid (Sp N V wr))
      case atStart => exact ⟨0, by omega, rfl, rfl, HSP⟩
      case round =>
        obtain ⟨k, hk, rfl, rfl, HSP⟩ := hrel
        have hl0 := HauL.out
        have u0 := HSP.out.sl _ _ _ _ HUau.out
        have HU := HUau
        by_cases hkn : k < c.au.length
        · have hkl : (k : Int) < c.au.length := by omega
          obtain ⟨a, ha⟩ : ∃ a, c.au[k]? = some a := ⟨_, List.getElem?_eq_getElem hkn⟩
          obtain ⟨b, off, hA, hN1, hG⟩ := spAu HP.out.aus ha
          obtain ⟨⟨m0, x0⟩, f0⟩ := hG _ HSP.out
          rw [hA] at u0
          have HN1 := Lib.hid hN1
          clear ha hG hN1 hA
          go_wp2
          go_roundg (c.au.length - (k + 1))
          case measure => omega
          case rel => exact ⟨k + 1, by omega, rfl, by go_num, Lib.hid (HSP.out.int HN1.out x0 _)⟩
        · have hkl : decide ((k : Int) < c.au.length) = false := by simp; omega
          go_wp2
          go_loopg [5] c.fo.length (fun m s5 wr => ∃ k : Nat, k ≤ c.fo.length ∧ m = c.fo.length - k ∧ s5 = .int .i64 (k : Int) ∧ Hid (Sp N V wr))
          case atStart => exact ⟨0, by omega, rfl, rfl, HSP⟩
          case round =>
            obtain ⟨k, hk, rfl, rfl, HSP⟩ := hrel
            have hl0 := HfoL.out
            have u0 := HSP.out.sl _ _ _ _ HUfo.out
            have HU := HUfo
            by_cases hkn : k < c.fo.length
            · have hkl : (k : Int) < c.fo.length := by omega
              obtain ⟨a, ha⟩ : ∃ a, c.fo[k]? = some a := ⟨_, List.getElem?_eq_getElem hkn⟩
              obtain ⟨b, off, hA, hN1, hG⟩ := spFo HP.out.fos ha
              have HG := Lib.hid hG; have HN1 := Lib.hid hN1
              clear hG hN1
              have ascriptP := Lib.hid (HP.out.scrs a (List.mem_of_getElem? ha)); have ahoardP := Lib.hid (HP.out.hors a (List.mem_of_getElem? ha)); have ascriptL := Lib.hid (HM.out.scrs a (List.mem_of_getElem? ha)); have ahoardL := Lib.hid (HM.out.hors a (List.mem_of_getElem? ha))
              clear ha
              rw [hA] at u0
              go_wp2
              go_loopg [6] a.script.length (fun m2 s6 wq => ∃ j : Nat, j ≤ a.script.length ∧ m2 = a.script.length - j ∧ s6 = .int .i64 (j : Int) ∧ Hid (Sp N V wq))
              case atStart => exact ⟨0, by omega, rfl, rfl, HSP⟩
              case round =>
                obtain ⟨j, hj, rfl, rfl, HSP⟩ := hrel
                have u0 := HSP.out.sl _ _ _ _ HU.out
                rw [hA] at u0
                obtain ⟨c5, c6, ⟨m0, x0⟩, f0⟩ := HG.out _ HSP.out
                have hl9 := ascriptL.out
                by_cases hjn : j < a.script.length
                · have hjl : (j : Int) < a.script.length := by omega
                  obtain ⟨t, ht⟩ : ∃ t, a.script[j]? = some t := ⟨_, List.getElem?_eq_getElem hjn⟩
                  obtain ⟨q, of2, hA2, hN2, hG2⟩ := spLn (ascriptP.out) ht
                  obtain ⟨⟨m1, x1⟩, f1⟩ := hG2 _ HSP.out
                  rw [hA2] at c5
                  have HN2 := Lib.hid hN2
                  clear ht hG2 hN2 hA2
                  go_wp2
                  go_roundg (a.script.length - (j + 1))
                  case measure => omega
                  case rel => exact ⟨j + 1, by omega, rfl, by go_num, Lib.hid (HSP.out.int HN2.out x1 _)⟩
                · have hjl : decide ((j : Int) < a.script.length) = false := by simp; omega
                  go_wp2
                  go_loopg [7] a.hoard.length (fun m2 s7 wz => ∃ j : Nat, j ≤ a.hoard.length ∧ m2 = a.hoard.length - j ∧ s7 = .int .i64 (j : Int) ∧ Hid (Sp N V wz))
                  case atStart => exact ⟨0, by omega, rfl, rfl, HSP⟩
                  case round =>
                    obtain ⟨j, hj, rfl, rfl, HSP⟩ := hrel
                    have u0 := HSP.out.sl _ _ _ _ HU.out
                    rw [hA] at u0
                    obtain ⟨c5, c6, ⟨m0, x0⟩, f0⟩ := HG.out _ HSP.out
                    have hl9 := ahoardL.out
                    by_cases hjn : j < a.hoard.length
                    · have hjl : (j : Int) < a.hoard.length := by omega
                      obtain ⟨t, ht⟩ : ∃ t, a.hoard[j]? = some t := ⟨_, List.getElem?_eq_getElem hjn⟩
                      obtain ⟨q, of2, hA2, hN2, hG2⟩ := spPz (ahoardP.out) ht
                      obtain ⟨⟨m1, x1⟩, f1⟩ := hG2 _ HSP.out
                      rw [hA2] at c6
                      have HN2 := Lib.hid hN2
                      clear ht hG2 hN2 hA2
                      go_wp2
                      go_roundg (a.hoard.length - (j + 1))
                      case measure => omega
                      case rel => exact ⟨j + 1, by omega, rfl, by go_num, Lib.hid (HSP.out.int HN2.out x1 _)⟩
                    · have hjl : decide ((j : Int) < a.hoard.length) = false := by simp; omega
                      go_wp2
                      go_roundg (c.fo.length - (k + 1))
                      case measure => omega
                      case rel => exact ⟨k + 1, by omega, rfl, by go_num, Lib.hid (HSP.out.int HN1.out x0 _)⟩
            · have hkl : decide ((k : Int) < c.fo.length) = false := by simp; omega
              go_wp2
              go_loopg [8] c.wl.length (fun m s8 wr => ∃ k : Nat, k ≤ c.wl.length ∧ m = c.wl.length - k ∧ s8 = .int .i64 (k : Int) ∧ Hid (Sp N V wr))
              case atStart => exact ⟨0, by omega, rfl, rfl, HSP⟩
              case round =>
                obtain ⟨k, hk, rfl, rfl, HSP⟩ := hrel
                have hl0 := HwlL.out
                have u0 := HSP.out.sl _ _ _ _ HUwl.out
                have HU := HUwl
                by_cases hkn : k < c.wl.length
                · have hkl : (k : Int) < c.wl.length := by omega
                  obtain ⟨a, ha⟩ : ∃ a, c.wl[k]? = some a := ⟨_, List.getElem?_eq_getElem hkn⟩
                  obtain ⟨b, off, hA, hN1, hG⟩ := spBo HP.out.wls ha
                  obtain ⟨⟨m0, x0⟩, f0⟩ := hG _ HSP.out.drew
                  have x9 := x0
                  rw [hA] at u0
                  have HN1 := Lib.hid hN1
                  clear ha hG hN1 hA
                  go_wp2
                  go_still_tail 12, (by kernel_rfl)
                  change wpList _ _ _ _ _ wr.drew
                  go_wp2
                  go_roundg (c.wl.length - (k + 1))
                  case measure => omega
                  case rel => exact ⟨k + 1, by omega, rfl, by go_num, Lib.hid (HSP.out.drew.bool HN1.out x0 _)⟩
                · have hkl : decide ((k : Int) < c.wl.length) = false := by simp; omega
                  go_wp2
                  go_end0
                  exact ⟨rfl, HXw.out.trans HSP.out.below⟩

end Go.Proofs.Ytekpbdjnfobobaa.Con
