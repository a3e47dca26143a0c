/-
  Contracts of the document's own away, Ready and Next.
-/
import Derived.Test.YtmdnjkiciaidiaaKco
import Derived.BigQuiet
import Derived.Handy
import Derived.Deep.QuietTactic
import Derived.Deep.LoopGhost
namespace Go.Proofs.Ytmdnjkiciaidiaa.Con
open Go.RowKit Go.Maps

theorem below_box (w : World) (o : Obj) : Below w.heap.size w (w.alloc o) := (Below.refl _ w).alloc (Nat.le_refl _) o
theorem bk_at {id : Int} : ∀ {l : List Co} {k : Nat} {x : Co}, (∀ y ∈ l.take k, y.id ≠ id) → l[k]? = some x → x.id = id → bkI (l.map Co.pl) id = x.bk
  | [], k, x, _, h, _ => by simp at h
  | y :: r, 0, x, _, h, e => by
    simp at h; subst h
    show (if y.id = id then y.bk else _) = _
    rw [if_pos e]
  | y :: r, k + 1, x, hn, h, e => by
    show (if y.id = id then y.bk else bkI (r.map Co.pl) id) = _
    rw [if_neg (hn y (by simp))]
    exact bk_at (k := k) (fun z hz => hn z (by simp [hz])) (by simpa using h) e
theorem bk_not {id : Int} {l : List Co} (h : ∀ y ∈ l, y.id ≠ id) : bkI (l.map Co.pl) id = [] := bk_none (fun x hx => by
  obtain ⟨y, hy, rfl⟩ := List.mem_map.1 hx
  exact h y hy)
theorem take_not {id : Int} {l : List Co} {k : Nat} {x : Co} (h : ∀ y ∈ l.take k, y.id ≠ id) (hx : l[k]? = some x) (e : x.id ≠ id) : ∀ y ∈ l.take (k + 1), y.id ≠ id := by
  intro y hy
  rw [List.take_add_one, hx] at hy
  rcases List.mem_append.1 hy with hy | hy
  · exact h y hy
  · simp at hy; rw [hy]; exact e
theorem aw_next {b : List Int} {now : Int} {j : Nat} {y : Int} (h : b[j]? = some y) : awI (b.take (j + 1)) now = if now < y then awI (b.take j) now ++ [y] else awI (b.take j) now := by
  rw [List.take_add_one, h, aw_append]
  by_cases e : now < y
  · rw [if_pos e]; simp [awI, e]
  · rw [if_neg e]; simp [awI, e]
theorem aw_take_le (b : List Int) (now : Int) (j : Nat) : (awI (b.take j) now).length ≤ j := Nat.le_trans (aw_len _ _) (by rw [List.length_take]; omega)
theorem rowCo {w V : World} {B : Nat} {A : Option Addr} {l : List Co} (hr : KRc w B A l) {k : Nat} {x : Co} (hx : l[k]? = some x) (hb : Below w.heap.size w V) (hB : B ≤ w.heap.size) :
    ∃ b off, A = some ⟨b, off, none⟩ ∧ b < V.heap.size ∧ V.cell? ⟨b, off + k * 2, none⟩ = some (.int .i64 x.id) ∧ V.cell? ⟨b, off + k * 2 + 1, none⟩ = some (.slice x.ba x.bk.length x.bc) := by
  obtain ⟨b, off, h1, h2, h3⟩ := (hr.1.below hb hB).at' hx
  obtain ⟨q0, q1⟩ := cellsCo (o := off + k * 2) h3
  exact ⟨b, off, h1, Nat.lt_of_lt_of_le (Nat.lt_of_lt_of_le h2 hB) hb.size, q0, q1⟩
theorem rowNu {w V : World} {B : Nat} {A : Option Addr} {l : List Int} (hr : RW nu w B A l) {k : Nat} {y : Int} (hx : l[k]? = some y) (hb : Below w.heap.size w V) (hB : B ≤ w.heap.size) :
    ∃ b off, A = some ⟨b, off, none⟩ ∧ b < V.heap.size ∧ V.cell? ⟨b, off + k, none⟩ = some (.int .i64 y) := by
  obtain ⟨b, off, h1, h2, h3⟩ := (hr.below hb hB).at' hx
  have q := cellsNu (o := off + k * 1) h3
  rw [Nat.mul_one] at q
  exact ⟨b, off, h1, Nat.lt_of_lt_of_le (Nat.lt_of_lt_of_le h2 hB) hb.size, q⟩

def NuO (w : World) (L : List Int) (e : Ending) (w' : World) : Prop := ∃ A c M, e = .returned (.slice A (List.length M) c) ∧ Hid (M = L) ∧ Hid (OW nu w' w.heap.size (.slice A M.length c) M) ∧ Hid (Below w.heap.size w w')

set_option maxRecDepth 20000 in
set_option maxHeartbeats 4000000 in
theorem raway_any {w : World} {B : Nat} {A : Option Addr} {l : List Co} {n cp : Nat} (id now : Int) (hn : l.length = n) (hl : (n : Int) ≤ 1000000) (hbk : ∀ x ∈ l, x.bk.length ≤ 1000) (hr : KRc w B A l) (hB : B ≤ w.heap.size) :
    Calls Try.prog 29 #[.slice A n cp, .int .i64 id, .int .i64 now] w (NuO w (wyI (l.map Co.pl) id now)) := by
  subst hn
  have HR := Lib.hid hr; have HB := Lib.hid hB; have HBK := Lib.hid hbk
  clear hr hB hbk
  go_enter Try.func29, Try.ntmps29
  go_wp2
  go_loopg [7, 8] l.length (fun gh s7 s8 wr => ∃ k : Nat, k ≤ l.length ∧ gh = l.length - k ∧ s8 = .int .i64 k ∧ s7 = .slice none 0 0 ∧ Hid (∀ y ∈ l.take k, y.id ≠ id) ∧ Hid (Below w.heap.size w wr))
  case atStart => exact ⟨0, by omega, rfl, rfl, rfl, Lib.hid (fun y hy => by simp at hy), Lib.hid (Below.refl _ _)⟩
  case round =>
    obtain ⟨k, hk, rfl, rfl, rfl, HNo, HW⟩ := hrel
    by_cases hlt : k < l.length
    · obtain ⟨x, hx⟩ : ∃ x, l[k]? = some x := ⟨_, List.getElem?_eq_getElem hlt⟩
      obtain ⟨b, off, hAA, hpl, d0, d1⟩ := rowCo HR.out hx HW.out HB.out
      have hlt' : (k : Int) < l.length := by omega
      have HXk := Lib.hid hx
      have HI := Lib.hid (HR.out.inner hx)
      have hbx := HBK.out x (List.mem_of_getElem? hx)
      by_cases hid : x.id = id
      · have hid' : decide (x.id = id) = true := by simpa using hid
        clear hx
        obtain ⟨xi, xa, xb, xc⟩ := x
        simp only at hid d0 d1 HI hbx hid'
        subst hid
        subst hAA
        have HBK2 := Lib.hid (bk_at HNo.out HXk.out rfl)
        go_wp2
        clear d0 d1 hpl
        go_loopg [7, 9] xb.length (fun gh s7 s9 wr => ∃ (j : Nat) (A1 : Option Addr) (c1 : Nat) (L : List Int), j ≤ xb.length ∧ gh = xb.length - j ∧ s9 = .int .i64 j ∧ s7 = .slice A1 L.length c1 ∧ Hid (L = awI (xb.take j) now) ∧ Hid (OW nu wr w.heap.size (.slice A1 L.length c1) L) ∧ Hid (Below w.heap.size w wr))
        case atStart => exact ⟨0, none, 0, [], by omega, rfl, rfl, rfl, Lib.hid rfl, Lib.hid (OW.nil nu wr w.heap.size), HW⟩
        case round =>
          obtain ⟨j, A1, c1, L, hj, rfl, rfl, rfl, HL, HO, HV⟩ := hrel
          obtain ⟨b', off', hAA, hpl, d0, d1⟩ := rowCo HR.out HXk.out HV.out HB.out
          injection hAA with hAA
          injection hAA with e1 e2
          subst e1; subst e2
          by_cases hjt : j < xb.length
          · obtain ⟨y, hy⟩ : ∃ y, xb[j]? = some y := ⟨_, List.getElem?_eq_getElem hjt⟩
            obtain ⟨b2, off2, hA2, hp2, f0⟩ := rowNu HI.out hy HV.out HB.out
            subst hA2
            have hjt' : (j : Int) < xb.length := by omega
            have HYj := Lib.hid (aw_next (now := now) hy)
            have HLb : Hid (L.length + [y].length ≤ 1000000) := Lib.hid (by have := aw_take_le xb now j; rw [← HL.out] at this; simp; omega)
            clear hy
            by_cases hu : now < y
            · have HT3 := Lib.hid (HO.out.of (below_box wr (.cells #[.int .i64 y] 3)))
              have HV3 := Lib.hid ((HV.out.trans ((below_box wr (.cells #[.int .i64 y] 3)).mono HV.out.size)))
              have HRW : Hid (RW nu (wr.alloc (.cells #[.int .i64 y] 3)) (wr.heap.size + 1) (some ⟨wr.heap.size, 0, none⟩) [y]) := Lib.hid (rw_at nu _ _ _ _ _ rfl rfl rfl)
              go_wp2_with (at_builtin; refine wpList_app nu rfl 33 rfl (.tmp 43) (.tmp 52) rfl w.heap.size (wr.heap.size + 1) (.slice A1 L.length c1) L [y] (some ⟨wr.heap.size, 0, none⟩) 1 1 rfl rfl rfl HT3.out HRW.out HLb.out HV3.out.size ?_; intro A3 c3 w3 lm HLM HO3 HS3 HB3)
              go_roundg (xb.length - (j + 1))
              case measure => omega
              case rel => exact ⟨j + 1, A3, c3, lm, by omega, rfl, by go_num, rfl, Lib.hid (by rw [HLM.out, HYj.out, if_pos hu, HL.out]), HO3, Lib.hid (below_app HV3.out HS3.out (fun q hq => (HT3.out.lt hq).1))⟩
            · have hu' : decide (now < y) = false := by simpa using hu
              go_wp2
              go_roundg (xb.length - (j + 1))
              case measure => omega
              case rel => exact ⟨j + 1, A1, c1, L, by omega, rfl, by go_num, rfl, Lib.hid (by rw [HYj.out, if_neg (by omega), HL.out]), HO, HV⟩
          · have hjt' : decide ((j : Int) < xb.length) = false := by simp; omega
            have hjn : j = xb.length := by omega
            subst hjn
            go_wp2
            go_ret
            exact ⟨A1, c1, L, rfl, Lib.hid (by rw [HL.out, List.take_length]; unfold wyI; rw [HBK2.out]), HO, HV⟩
      · have hid' : decide (x.id = id) = false := by simpa using hid
        have HN2 := Lib.hid (take_not HNo.out HXk.out hid)
        subst hAA
        clear hx
        go_wp2
        go_roundg (l.length - (k + 1))
        case measure => omega
        case rel => exact ⟨k + 1, by omega, rfl, by go_num, rfl, HN2, HW⟩
    · have hlt' : decide ((k : Int) < l.length) = false := by simp; omega
      have hkn : k = l.length := by omega
      subst hkn
      go_wp2
      go_ret
      have e : wyI (l.map Co.pl) id now = [] := by unfold wyI; rw [bk_not (fun y hy => HNo.out y (by rw [List.take_length]; exact hy))]; rfl
      exact ⟨none, 0, [], rfl, Lib.hid e.symm, Lib.hid (OW.nil nu wr w.heap.size), HW⟩
end Go.Proofs.Ytmdnjkiciaidiaa.Con
