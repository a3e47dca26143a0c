/-
  Contracts of slices.IsSorted at numbers, and of Right of package cool.
-/
import Derived.Test.YtmdnjkiciaidiaaPca
import Derived.Test.YtmdnjkiciaidiaaCdb
namespace Go.Proofs.Ytmdnjkiciaidiaa.Con
open Go.RowKit Go.Maps

theorem nan_any (x : Int) (w : World) : Calls Try.prog 48 #[.int .i64 x] w fun e w' => e = .returned (.bool false) ∧ w' = w := by
  go_enter Try.func48, Try.ntmps48
  go_wp2
  go_ret
  exact ⟨by simp, rfl⟩
theorem less_any (x y : Int) (w : World) : Calls Try.prog 45 #[.int .i64 x, .int .i64 y] w fun e w' => e = .returned (.bool (decide (x < y))) ∧ w' = w := by
  go_enter Try.func45, Try.ntmps45
  go_wp2_with ((with_reducible refine (nan_any _ _).mono ?_); rintro e w' ⟨rfl, rfl⟩)
  go_ret
  exact ⟨by first | rfl | simp, rfl⟩
theorem drop_step {l : List Int} {k : Nat} {x y : Int} (hx : l[k]? = some x) (hy : l[k + 1]? = some y) : (l.drop k).Pairwise (· ≤ ·) ↔ x ≤ y ∧ (l.drop (k + 1)).Pairwise (· ≤ ·) := by
  obtain ⟨h1, rfl⟩ := List.getElem?_eq_some_iff.1 hx
  obtain ⟨h2, rfl⟩ := List.getElem?_eq_some_iff.1 hy
  rw [List.drop_eq_getElem_cons h1, List.drop_eq_getElem_cons h2, List.pairwise_cons]
  constructor
  · rintro ⟨h, k⟩
    exact ⟨h _ (List.mem_cons_self ..), k⟩
  · rintro ⟨h, k⟩
    refine ⟨fun z hz => ?_, k⟩
    rcases List.mem_cons.1 hz with rfl | hz
    · exact h
    · exact Int.le_trans h ((List.pairwise_cons.1 k).1 z hz)

set_option maxRecDepth 20000 in
set_option maxHeartbeats 4000000 in
theorem sorted_any {w : World} {B : Nat} {A : Option Addr} {l : List Int} {n c : Nat} (hn : l.length = n) (hl : (n : Int) ≤ 1000) (hr : RW nu w B A l) (hB : B ≤ w.heap.size) (sb : Bool) (hsb : sb = true ↔ l.Pairwise (· ≤ ·)) :
    Calls Try.prog 34 #[.slice A n c] w fun e w' => e = .returned (.bool sb) ∧ Below w.heap.size w w' := by
  subst hn
  have HF : Hid (¬ l.Pairwise (· ≤ ·) → sb = false) := Lib.hid (fun h => by cases hh : sb with | false => rfl | true => exact absurd (hsb.1 hh) h)
  have HT : Hid (l.Pairwise (· ≤ ·) → sb = true) := Lib.hid hsb.2
  have HR := Lib.hid hr; have HB := Lib.hid hB
  have HP : Hid (∀ k, l.Pairwise (· ≤ ·) → (l.drop k).Pairwise (· ≤ ·)) := Lib.hid (fun k h => h.sublist (List.drop_sublist k l))
  clear hr hB hsb
  rcases Nat.eq_zero_or_pos l.length with h0 | h0
  · have e : l = [] := List.eq_nil_of_length_eq_zero h0
    subst e
    have e : sb = true := HT.out List.Pairwise.nil
    subst e
    go_enter Try.func34, Try.ntmps34
    go_wp2
    go_loopg [3] 1 (fun gh s3 wr => gh = 1 ∧ s3 = .int .i64 (-1) ∧ wr = w)
    case atStart => exact ⟨rfl, by first | rfl | (simp; decide) | decide, rfl⟩
    case round =>
      obtain ⟨rfl, rfl, rfl⟩ := hrel
      go_wp2
      go_ret
      exact ⟨rfl, Below.refl _ _⟩
  · have hmi : IntKind.i64.wrap ((l.length : Int) - 1) = ((l.length - 1 : Nat) : Int) := by rw [IntWalk.i64_in _ (by omega)]; omega
    have HS : Hid ((l.drop (l.length - 1)).Pairwise (· ≤ ·)) := Lib.hid (by
      rw [List.drop_eq_getElem_cons (by omega), List.drop_eq_nil_of_le (by omega)]; exact List.pairwise_singleton ..)
    go_enter Try.func34, Try.ntmps34
    go_wp2
    go_loopg [3] l.length (fun gh s3 wr => ∃ k : Nat, k < l.length ∧ gh = k + 1 ∧ s3 = .int .i64 k ∧ Hid ((l.drop k).Pairwise (· ≤ ·)) ∧ Hid (Below w.heap.size w wr))
    case atStart => exact ⟨l.length - 1, by omega, by omega, (by first | rfl | (rw [hmi]) | (congr 1; omega)), HS, Lib.hid (Below.refl _ _)⟩
    case round =>
      obtain ⟨k, hk, rfl, rfl, HK, HW⟩ := hrel
      rcases Nat.eq_zero_or_pos k with hk0 | hk0
      · subst hk0
        have e : sb = true := HT.out (by have := HK.out; rwa [List.drop_zero] at this)
        subst e
        go_wp2
        go_ret
        exact ⟨rfl, HW.out⟩
      · obtain ⟨m, rfl⟩ : ∃ m, k = m + 1 := ⟨k - 1, by omega⟩
        obtain ⟨x, hx⟩ : ∃ x, l[m]? = some x := ⟨_, List.getElem?_eq_getElem (by omega)⟩
        obtain ⟨y, hy⟩ : ∃ y, l[m + 1]? = some y := ⟨_, List.getElem?_eq_getElem hk⟩
        obtain ⟨b2, off2, hA2, hp2, f0⟩ := rowNu HR.out hx HW.out HB.out
        obtain ⟨b3, off3, hA3, hp3, f1⟩ := rowNu HR.out hy HW.out HB.out
        subst hA2
        injection hA3 with hA3
        injection hA3 with q3 q4
        subst q3; subst q4
        have HSN := Lib.hid (drop_step hx hy)
        clear hx hy
        have hkz : decide ((0 : Int) < ((m + 1 : Nat) : Int)) = true := by first | (simp; done) | (simp; omega)
        have hjt' : ((m + 1 : Nat) : Int) < l.length := by omega
        have hmi2 : IntKind.i64.wrap (((m + 1 : Nat) : Int) - 1) = (m : Int) := by rw [IntWalk.i64_in _ (by omega)]; omega
        by_cases hu : y < x
        · have hu' : decide (y < x) = true := by simpa using hu
          have HN : Hid (sb = false) := Lib.hid (HF.out (fun h => by have := (HSN.out.1 (HP.out m h)).1; omega))
          (have hrf := HN.out; clear HN; subst hrf)
          go_wp2
          go_quiet ((go_at_call 45; exact Calls.quiet_of_same (less_any _ _ _)))
          go_wp2
          go_ret
          exact ⟨rfl, below_drewN HW.out _⟩
        · have hu' : decide (y < x) = false := by simp; omega
          go_wp2
          go_quiet ((go_at_call 45; exact Calls.quiet_of_same (less_any _ _ _)))
          go_wp2
          go_roundg (m + 1)
          case measure => omega
          case rel => exact ⟨m, by omega, rfl, (by first | rfl | (rw [hmi2]) | (congr 1; omega)), Lib.hid (HSN.out.2 ⟨by omega, HK.out⟩), Lib.hid (below_drewN HW.out _)⟩

/-! ### Right -/
def laI (l : List Co) : Nat → Int
  | 0 => 0
  | k + 1 => (l[k]?.map Co.id).getD 0
theorem la_next {l : List Co} {k : Nat} {x : Co} (h : l[k]? = some x) : laI l (k + 1) = x.id := by show (l[k]?.map Co.id).getD 0 = x.id; rw [h]; rfl
theorem rk_step {l : List Co} {k : Nat} {x : Co} (hx : l[k]? = some x) : RtK l (k + 1) ↔ RtK l k ∧ laI l k < x.id ∧ 1 ≤ x.bk.length ∧ x.bk.length ≤ 100 ∧ x.bk.Pairwise (· ≤ ·) := by
  cases k with
  | zero =>
    rw [rk_first hx]
    show _ ↔ _ ∧ (0 : Int) < x.id ∧ _
    exact ⟨fun h => ⟨rk_zero l, by omega, h.2⟩, fun h => ⟨by omega, h.2.2⟩⟩
  | succ m =>
    have hm : m < l.length := by have := (List.getElem?_eq_some_iff.1 hx).1; omega
    obtain ⟨y, hy⟩ : ∃ y, l[m]? = some y := ⟨_, List.getElem?_eq_getElem hm⟩
    rw [rk_next hy hx, la_next hy]
    refine ⟨fun h => ⟨h.1, h.2.2, h.2.1.2⟩, fun h => ⟨h.1, ⟨?_, h.2.2⟩, h.2.1⟩⟩
    have h1 : 1 ≤ y.id := (h.1.1 y.pl (List.mem_map.2 ⟨y, List.mem_of_getElem? (i := m) (by rw [List.getElem?_take, if_pos (by omega)]; exact hy), rfl⟩)).1
    omega

set_option maxRecDepth 20000 in
set_option maxHeartbeats 8000000 in
theorem right_any {w : World} {B : Nat} {A : Option Addr} {l : List Co} {n cp : Nat} (hn : l.length = n) (hl : (n : Int) ≤ 1000000) (hbk : ∀ x ∈ l, x.bk.length ≤ 1000) (hr : KRc w B A l) (hB : B ≤ w.heap.size) (rb : Bool) (hrb : rb = true ↔ RtC (l.map Co.pl)) :
    Calls Try.prog 17 #[.slice A n cp] w fun e w' => e = .returned (.bool rb) ∧ Below w.heap.size w w' := by
  subst hn
  have HR := Lib.hid hr; have HB := Lib.hid hB; have HBK := Lib.hid hbk; have HRB := Lib.hid hrb
  have HF : Hid (∀ k, ¬ RtK l k → rb = false) := Lib.hid (fun k h => by cases hh : rb with | false => rfl | true => exact absurd (rk_all (HRB.out.1 hh) k) h)
  clear hr hB hbk hrb
  go_enter Try.func17, Try.ntmps17
  go_wp2
  go_loopg [3, 8] l.length (fun gh s3 s8 wr => ∃ (k : Nat) (la : Int), k ≤ l.length ∧ gh = l.length - k ∧ s8 = .int .i64 k ∧ s3 = .int .i64 la ∧ Hid (laI l k = la) ∧ Hid (RtK l k) ∧ Hid (Below w.heap.size w wr))
  case atStart => exact ⟨0, 0, by omega, rfl, rfl, rfl, Lib.hid rfl, Lib.hid (rk_zero l), Lib.hid (Below.refl _ _)⟩
  case round =>
    obtain ⟨k, la, hk, rfl, rfl, rfl, HLA, HK, HW⟩ := hrel
    by_cases hlt : k < l.length
    · obtain ⟨x, hx⟩ : ∃ x, l[k]? = some x := ⟨_, List.getElem?_eq_getElem hlt⟩
      obtain ⟨b, off, hAA, hpl, d0, d1⟩ := rowCo HR.out hx HW.out HB.out
      subst hAA
      have hlt' : (k : Int) < l.length := by omega
      have HXk := Lib.hid (rk_step hx)
      have HLN := Lib.hid (la_next hx)
      have HI := Lib.hid (HR.out.inner hx)
      have hbx := HBK.out x (List.mem_of_getElem? hx)
      have HFK := Lib.hid (HF.out (k + 1))
      clear hx
      obtain ⟨xi, xa, xb, xc⟩ := x
      simp only at d0 d1 HI hbx HXk HLN
      rw [HLA.out] at HXk
      have HV1 := Lib.hid (HW.out.trans ((below_box wr (oCo ⟨xi, xa, xb, xc⟩)).mono HW.out.size))
      by_cases h1 : xi ≤ la
      · have h1' : decide (xi ≤ la) = true := by simpa using h1
        have HN : Hid (rb = false) := Lib.hid (HFK.out (fun h => by have := (HXk.out.1 h).2.1; omega))
        (have hrf := HN.out; clear HN; subst hrf)
        go_wp2
        go_ret
        exact ⟨rfl, HV1.out⟩
      · have h1' : decide (xi ≤ la) = false := by simp; omega
        rcases Nat.eq_zero_or_pos xb.length with h3 | h3
        · have HN : Hid (rb = false) := Lib.hid (HFK.out (fun h => by have := (HXk.out.1 h).2.2.1; omega))
          (have hrf := HN.out; clear HN; subst hrf)
          have h3' : ((xb.length : Int) == 0) = true := by simp; exact List.eq_nil_of_length_eq_zero h3
          have HE := Lib.hid h3
          go_wp2
          go_ret
          exact ⟨rfl, by
            have q : Below w.heap.size w (wr.alloc (.cells #[.int .i64 xi, .slice xa xb.length xc] 35)) := HV1.out
            first | exact q | (rw [HE.out] at q; exact q)⟩
        · have h3' : ((xb.length : Int) == 0) = false := beq_eq_false_iff_ne.2 (by omega)
          by_cases h4 : 100 < xb.length
          · have HN : Hid (rb = false) := Lib.hid (HFK.out (fun h => by have := (HXk.out.1 h).2.2.2.1; omega))
            (have hrf := HN.out; clear HN; subst hrf)
            have h4' : decide ((100 : Int) < (xb.length : Int)) = true := by simp; omega
            go_wp2
            go_ret
            exact ⟨rfl, HV1.out⟩
          · have h4' : decide ((100 : Int) < (xb.length : Int)) = false := by simp; omega
            obtain ⟨sb, hsb⟩ : ∃ sb : Bool, sb = true ↔ xb.Pairwise (· ≤ ·) := ⟨@decide (xb.Pairwise (· ≤ ·)) (Classical.propDecidable _), by simp⟩
            have HSB := Lib.hid hsb
            have HRX : Hid (RW nu (wr.alloc (oCo ⟨xi, xa, xb, xc⟩)) B xa xb) := Lib.hid (HI.out.below HV1.out HB.out)
            have HC := Lib.hid (sorted_any (c := xc) rfl (by omega) HRX.out (Nat.le_trans HB.out HV1.out.size) sb hsb)
            have z0 := heap_alloc_new wr (oCo ⟨xi, xa, xb, xc⟩)
            have HZ0 := Lib.hid z0
            clear hsb z0
            cases sb with
            | false =>
              have HN : Hid (rb = false) := Lib.hid (HFK.out (fun h => by have := HSB.out.2 (HXk.out.1 h).2.2.2.2; first | cases this | simp at this))
              (have hrf := HN.out; clear HN; subst hrf)
              go_wp2_with ((with_reducible refine HC.out.mono ?_); rintro e w2 ⟨rfl, hB2⟩; have HV2 := Lib.hid (HV1.out.trans (hB2.mono HV1.out.size)); have y0 := blk_cell HZ0.out hB2 (by simp); have ly : wr.heap.size < w2.heap.size := Nat.lt_of_lt_of_le (by simp) hB2.size; clear hB2)
              go_ret
              exact ⟨rfl, HV2.out⟩
            | true =>
              go_wp2_with ((with_reducible refine HC.out.mono ?_); rintro e w2 ⟨rfl, hB2⟩; have HV2 := Lib.hid (HV1.out.trans (hB2.mono HV1.out.size)); have y0 := blk_cell HZ0.out hB2 (by simp); have ly : wr.heap.size < w2.heap.size := Nat.lt_of_lt_of_le (by simp) hB2.size; clear hB2)
              go_roundg (l.length - (k + 1))
              case measure => omega
              case rel => exact ⟨k + 1, xi, by omega, rfl, by go_num, rfl, HLN, Lib.hid (HXk.out.2 ⟨HK.out, by omega, h3, by omega, HSB.out.1 (by first | rfl | trivial)⟩), HV2⟩
    · have hlt' : decide ((k : Int) < l.length) = false := by simp; omega
      have hkn : k = l.length := by omega
      subst hkn
      have HN : Hid (rb = true) := Lib.hid (HRB.out.2 ((rk_end l).1 HK.out))
      (have hrf := HN.out; clear HN; subst hrf)
      go_wp2
      go_ret
      exact ⟨rfl, HW.out⟩
end Go.Proofs.Ytmdnjkiciaidiaa.Con
