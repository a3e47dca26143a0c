/-
  Contract of the document's own Right.
-/
import Derived.Test.YtmdnjkiciaidiaaCda
namespace Go.Proofs.Ytmdnjkiciaidiaa.Con
open Go.RowKit Go.Maps

theorem sorted_snoc {p : List Int} {z : Int} : (p ++ [z]).Pairwise (· ≤ ·) ↔ p.Pairwise (· ≤ ·) ∧ ∀ y, p.getLast? = some y → y ≤ z := by
  rw [List.pairwise_append]
  constructor
  · rintro ⟨h1, _, h3⟩
    exact ⟨h1, fun y hy => h3 y (List.mem_of_getLast? hy) z (by simp)⟩
  · rintro ⟨h1, h2⟩
    refine ⟨h1, List.pairwise_singleton .., fun y hy x hx => ?_⟩
    rcases List.mem_singleton.1 hx with rfl
    obtain ⟨q, u, rfl⟩ : ∃ q u, p = q ++ [u] := ⟨_, _, (List.dropLast_concat_getLast (List.ne_nil_of_mem hy)).symm⟩
    have h3 := h2 u (by simp)
    rcases List.mem_append.1 hy with hy | hy
    · exact Int.le_trans ((List.pairwise_append.1 h1).2.2 y hy u (by simp)) h3
    · rcases List.mem_singleton.1 hy with rfl; exact h3
theorem sorted_next {b : List Int} {j : Nat} {x y : Int} (hx : b[j]? = some x) (hy : b[j + 1]? = some y) : (b.take (j + 2)).Pairwise (· ≤ ·) ↔ (b.take (j + 1)).Pairwise (· ≤ ·) ∧ x ≤ y := by
  rw [List.take_add_one (i := j + 1), hy]
  show (b.take (j + 1) ++ [y]).Pairwise _ ↔ _
  rw [sorted_snoc]
  have : (b.take (j + 1)).getLast? = some x := by rw [List.take_add_one, hx]; simp
  rw [this]
  simp
theorem sorted_one (b : List Int) : (b.take 1).Pairwise (· ≤ ·) := by cases b <;> simp
theorem sorted_pre {b : List Int} (h : b.Pairwise (· ≤ ·)) (j : Nat) : (b.take j).Pairwise (· ≤ ·) := h.sublist (List.take_sublist _ _)
theorem rt_pre {p q : List Cp} (h : RtC (p ++ q)) : RtC p := ⟨fun x hx => h.1 x (List.mem_append_left _ hx), (List.pairwise_append.1 h.2).1⟩
theorem rt_snoc {p : List Cp} {x : Cp} : RtC (p ++ [x]) ↔ RtC p ∧ (1 ≤ x.1 ∧ 1 ≤ x.2.length ∧ x.2.length ≤ 100 ∧ x.2.Pairwise (· ≤ ·)) ∧ ∀ y, p.getLast? = some y → y.1 < x.1 := by
  constructor
  · intro h
    exact ⟨rt_pre h, h.1 x (by simp), fun y hy => (List.pairwise_append.1 h.2).2.2 y (List.mem_of_getLast? hy) x (by simp)⟩
  · rintro ⟨h1, h2, h3⟩
    refine ⟨fun y hy => ?_, List.pairwise_append.2 ⟨h1.2, List.pairwise_singleton .., fun y hy z hz => ?_⟩⟩
    · rcases List.mem_append.1 hy with hy | hy
      · exact h1.1 y hy
      · rcases List.mem_singleton.1 hy with rfl; exact h2
    · rcases List.mem_singleton.1 hz with rfl
      obtain ⟨q, u, rfl⟩ : ∃ q u, p = q ++ [u] := ⟨_, _, (List.dropLast_concat_getLast (List.ne_nil_of_mem hy)).symm⟩
      have h4 := h3 u (by simp)
      rcases List.mem_append.1 hy with hy | hy
      · exact Int.lt_trans ((List.pairwise_append.1 h1.2).2.2 y hy u (by simp)) h4
      · rcases List.mem_singleton.1 hy with rfl; exact h4
def RtK (l : List Co) (k : Nat) : Prop := RtC ((l.take k).map Co.pl)
theorem rk_zero (l : List Co) : RtK l 0 := by unfold RtK; simp [rt_nil]
theorem rk_first {l : List Co} {x : Co} (hx : l[0]? = some x) : RtK l 1 ↔ (1 ≤ x.id ∧ 1 ≤ x.bk.length ∧ x.bk.length ≤ 100 ∧ x.bk.Pairwise (· ≤ ·)) := by
  unfold RtK
  rw [List.take_add_one, hx]
  show RtC ([] ++ [x.pl]) ↔ _
  rw [rt_snoc]
  exact ⟨fun h => h.2.1, fun h => ⟨rt_nil, h, fun y hy => by simp at hy⟩⟩
theorem rk_next {l : List Co} {k : Nat} {x y : Co} (hy : l[k]? = some y) (hx : l[k + 1]? = some x) : RtK l (k + 2) ↔ RtK l (k + 1) ∧ (1 ≤ x.id ∧ 1 ≤ x.bk.length ∧ x.bk.length ≤ 100 ∧ x.bk.Pairwise (· ≤ ·)) ∧ y.id < x.id := by
  unfold RtK
  rw [List.take_add_one (i := k + 1), hx, List.map_append]
  show RtC (_ ++ [x.pl]) ↔ _
  rw [rt_snoc]
  have : ((l.take (k + 1)).map Co.pl).getLast? = some y.pl := by rw [List.take_add_one, hy]; simp
  rw [this]
  simp [Co.pl]
theorem rk_all {l : List Co} (h : RtC (l.map Co.pl)) (k : Nat) : RtK l k := by
  unfold RtK
  have := h
  rw [← List.take_append_drop k l, List.map_append] at this
  exact rt_pre this
theorem rk_end (l : List Co) : RtK l l.length ↔ RtC (l.map Co.pl) := by unfold RtK; rw [List.take_length]
set_option maxRecDepth 20000 in
set_option maxHeartbeats 8000000 in
theorem rright_any {w : World} {B : Nat} {A : Option Addr} {l : List Co} {n cp : Nat} (hn : l.length = n) (hl : (n : Int) ≤ 1000000) (hbk : ∀ x ∈ l, x.bk.length ≤ 1000) (hr : KRc w B A l) (hB : B ≤ w.heap.size) (rb : Bool) (hrb : rb = true ↔ RtC (l.map Co.pl)) :
    Calls Try.prog 18 #[.slice A n cp] w fun e w' => e = .returned (.bool rb) ∧ Below w.heap.size w w' := by
  subst hn
  have HR := Lib.hid hr; have HB := Lib.hid hB; have HBK := Lib.hid hbk; have HRB := Lib.hid hrb
  have HF : Hid (¬ RtC (l.map Co.pl) → rb = false) := Lib.hid (fun h => by cases hh : rb with | false => rfl | true => exact absurd (HRB.out.1 hh) h)
  clear hr hB hbk hrb
  go_enter Try.func18, Try.ntmps18
  go_wp2
  go_loopg [3] l.length (fun gh s3 wr => ∃ k : Nat, k ≤ l.length ∧ gh = l.length - k ∧ s3 = .int .i64 k ∧ Hid (RtK l k) ∧ Hid (Below w.heap.size w wr))
  case atStart => exact ⟨0, by omega, rfl, rfl, Lib.hid (rk_zero l), Lib.hid (Below.refl _ _)⟩
  case round =>
    obtain ⟨k, hk, rfl, rfl, HK, HW⟩ := hrel
    by_cases hlt : k < l.length
    · obtain ⟨x, hx⟩ : ∃ x, l[k]? = some x := ⟨_, List.getElem?_eq_getElem hlt⟩
      obtain ⟨b, off, hAA, hpl, d0, d1⟩ := rowCo HR.out hx HW.out HB.out
      subst hAA
      have hlt' : (k : Int) < l.length := by omega
      have HXk := Lib.hid hx
      have HI := Lib.hid (HR.out.inner hx)
      have hbx := HBK.out x (List.mem_of_getElem? hx)
      clear hx
      obtain ⟨xi, xa, xb, xc⟩ := x
      simp only at d0 d1 HI hbx
      by_cases h1 : xi < 1
      · have HN : Hid (rb = false) := Lib.hid (HF.out (fun h => by
          have := (h.1 _ (List.mem_map.2 ⟨_, List.mem_of_getElem? HXk.out, rfl⟩)).1
          simp [Co.pl] at this; omega))
        (have hrf := HN.out; clear HN; subst hrf)
        go_wp2
        go_quiet (fail)
        go_wp2
        go_ret
        exact ⟨rfl, (below_drewN HW.out _)⟩
      · have h1' : decide (xi < 1) = false := by simp; omega
        have HLB : Hid (¬ (1 ≤ xb.length ∧ xb.length ≤ 100) → rb = false) := Lib.hid (fun g => HF.out (fun h => by
          have := h.1 _ (List.mem_map.2 ⟨_, List.mem_of_getElem? HXk.out, rfl⟩)
          exact g ⟨this.2.1, this.2.2.1⟩))
        have HSB : Hid (¬ xb.Pairwise (· ≤ ·) → rb = false) := Lib.hid (fun g => HF.out (fun h => g (h.1 _ (List.mem_map.2 ⟨_, List.mem_of_getElem? HXk.out, rfl⟩)).2.2.2))
        rcases Nat.eq_zero_or_pos k with hk0 | hk0
        · subst hk0
          rw [Nat.zero_mul, Nat.add_zero] at d0 d1
          have hlt0 : (0 : Int) < l.length := by omega
          have HNX : Hid (1 ≤ xb.length → xb.length ≤ 100 → xb.Pairwise (· ≤ ·) → RtK l (0 + 1)) := Lib.hid (fun g1 g2 g3 => by exact (rk_first HXk.out).2 ⟨(by show 1 ≤ xi; omega), g1, g2, g3⟩)
          rcases Nat.eq_zero_or_pos xb.length with h3 | h3
          · have HN : Hid (rb = false) := Lib.hid (HLB.out (by omega))
            (have hrf := HN.out; clear HN; subst hrf)
            have h3' : decide ((xb.length : Int) < 1) = true := by simp; omega
            go_wp2
            go_quiet (fail)
            go_wp2
            go_ret
            exact ⟨rfl, (below_drewN HW.out _)⟩
          · have h3' : decide ((xb.length : Int) < 1) = false := by simp; omega
            by_cases h4 : 100 < xb.length
            · have HN : Hid (rb = false) := Lib.hid (HLB.out (by omega))
              (have hrf := HN.out; clear HN; subst hrf)
              have h4' : decide ((100 : Int) < (xb.length : Int)) = true := by simp; omega
              go_wp2
              go_quiet (fail)
              go_wp2
              go_ret
              exact ⟨rfl, (below_drewN HW.out _)⟩
            · have h4' : decide ((100 : Int) < (xb.length : Int)) = false := by simp; omega
              go_wp2
              go_quiet (fail)
              go_wp2
              clear d0 d1 hpl
              go_loopg [5] xb.length (fun gh s5 wr => ∃ j : Nat, 1 ≤ j ∧ j ≤ xb.length ∧ gh = xb.length + 1 - j ∧ s5 = .int .i64 j ∧ Hid ((xb.take j).Pairwise (· ≤ ·)) ∧ Hid (Below w.heap.size w wr))
              case atStart => exact ⟨1, by omega, by omega, rfl, rfl, Lib.hid (sorted_one xb), Lib.hid (below_drewN HW.out _)⟩
              case round =>
                obtain ⟨j, hj1, hj, rfl, rfl, HSo, HV⟩ := hrel
                by_cases hjt : j < xb.length
                · obtain ⟨i, rfl⟩ : ∃ i, j = i + 1 := ⟨j - 1, by omega⟩
                  obtain ⟨u, hu⟩ : ∃ u, xb[i]? = some u := ⟨_, List.getElem?_eq_getElem (by omega)⟩
                  obtain ⟨v, hv⟩ : ∃ v, xb[i + 1]? = some v := ⟨_, List.getElem?_eq_getElem hjt⟩
                  obtain ⟨b2, off2, hA2, hp2, f0⟩ := rowNu HI.out hu HV.out HB.out
                  obtain ⟨b3, off3, hA3, hp3, f1⟩ := rowNu HI.out hv HV.out HB.out
                  subst hA2
                  injection hA3 with hA3
                  injection hA3 with q3 q4
                  subst q3; subst q4
                  have HSN := Lib.hid (sorted_next hu hv)
                  clear hu hv
                  have hjt' : ((i + 1 : Nat) : Int) < xb.length := by omega
                  have hii : IntKind.i64.wrap (((i + 1 : Nat) : Int) - 1) = (i : Int) := by rw [IntWalk.i64_in _ (by omega)]; omega
                  by_cases huv : v < u
                  · have huv' : decide (v < u) = true := by simpa using huv
                    have HN : Hid (rb = false) := Lib.hid (HSB.out (fun h => by have := (HSN.out.1 (sorted_pre h _)).2; omega))
                    (have hrf := HN.out; clear HN; subst hrf)
                    go_wp2
                    go_quiet (fail)
                    go_wp2
                    go_ret
                    exact ⟨rfl, (below_drewN HV.out _)⟩
                  · have huv' : decide (v < u) = false := by simp; omega
                    go_wp2
                    go_quiet (fail)
                    go_wp2
                    go_roundg (xb.length + 1 - (i + 2))
                    case measure => omega
                    case rel => exact ⟨i + 2, by omega, by omega, rfl, by go_num, Lib.hid (HSN.out.2 ⟨HSo.out, by omega⟩), Lib.hid (below_drewN HV.out _)⟩
                · have hjt' : decide ((j : Int) < xb.length) = false := by simp; omega
                  have hjn : j = xb.length := by omega
                  subst hjn
                  have HSA : Hid (xb.Pairwise (· ≤ ·)) := Lib.hid (by have := HSo.out; rwa [List.take_length] at this)
                  go_wp2
                  go_roundg (l.length - (0 + 1))
                  case measure => omega
                  case rel => exact ⟨0 + 1, by omega, rfl, by go_num, Lib.hid (HNX.out h3 (by omega) HSA.out), HV⟩
        · obtain ⟨m, rfl⟩ : ∃ m, k = m + 1 := ⟨k - 1, by omega⟩
          obtain ⟨y, hy⟩ : ∃ y, l[m]? = some y := ⟨_, List.getElem?_eq_getElem (by omega)⟩
          obtain ⟨b', off', hAA, hpl', e0, e1⟩ := rowCo HR.out hy HW.out HB.out
          injection hAA with hAA
          injection hAA with q1 q2
          subst q1; subst q2
          have HYk := Lib.hid hy
          clear hy hpl' e1
          have hkz : decide ((0 : Int) < ((m + 1 : Nat) : Int)) = true := by first | (simp; done) | (simp; omega)
          have hmi : IntKind.i64.wrap (((m + 1 : Nat) : Int) - 1) = (m : Int) := by rw [IntWalk.i64_in _ (by omega)]; omega
          have HKF : Hid (¬ y.id < xi → rb = false) := Lib.hid (fun g => HF.out (fun h => g ((rk_next HYk.out HXk.out).1 (rk_all h _)).2.2))
          have HNX : Hid (y.id < xi → 1 ≤ xb.length → xb.length ≤ 100 → xb.Pairwise (· ≤ ·) → RtK l (m + 2)) := Lib.hid (fun g0 g1 g2 g3 => (rk_next HYk.out HXk.out).2 ⟨HK.out, ⟨(by show 1 ≤ xi; omega), g1, g2, g3⟩, g0⟩)
          obtain ⟨yi, ya, yb, yc⟩ := y
          simp only at e0 HKF HNX
          by_cases h2 : xi ≤ yi
          · have h2' : decide (xi ≤ yi) = true := by simpa using h2
            have HN : Hid (rb = false) := Lib.hid (HKF.out (by omega))
            (have hrf := HN.out; clear HN; subst hrf)
            go_wp2
            go_quiet (fail)
            go_wp2
            go_ret
            exact ⟨rfl, (below_drewN HW.out _)⟩
          · have h2' : decide (xi ≤ yi) = false := by simp; omega
            have HNX := Lib.hid (HNX.out (by omega))
            rcases Nat.eq_zero_or_pos xb.length with h3 | h3
            · have HN : Hid (rb = false) := Lib.hid (HLB.out (by omega))
              (have hrf := HN.out; clear HN; subst hrf)
              have h3' : decide ((xb.length : Int) < 1) = true := by simp; omega
              go_wp2
              go_quiet (fail)
              go_wp2
              go_ret
              exact ⟨rfl, (below_drewN HW.out _)⟩
            · have h3' : decide ((xb.length : Int) < 1) = false := by simp; omega
              by_cases h4 : 100 < xb.length
              · have HN : Hid (rb = false) := Lib.hid (HLB.out (by omega))
                (have hrf := HN.out; clear HN; subst hrf)
                have h4' : decide ((100 : Int) < (xb.length : Int)) = true := by simp; omega
                go_wp2
                go_quiet (fail)
                go_wp2
                go_ret
                exact ⟨rfl, (below_drewN HW.out _)⟩
              · have h4' : decide ((100 : Int) < (xb.length : Int)) = false := by simp; omega
                go_wp2
                go_quiet (fail)
                go_wp2
                clear d0 d1 hpl
                go_loopg [5] xb.length (fun gh s5 wr => ∃ j : Nat, 1 ≤ j ∧ j ≤ xb.length ∧ gh = xb.length + 1 - j ∧ s5 = .int .i64 j ∧ Hid ((xb.take j).Pairwise (· ≤ ·)) ∧ Hid (Below w.heap.size w wr))
                case atStart => exact ⟨1, by omega, by omega, rfl, rfl, Lib.hid (sorted_one xb), Lib.hid (below_drewN HW.out _)⟩
                case round =>
                  obtain ⟨j, hj1, hj, rfl, rfl, HSo, HV⟩ := hrel
                  by_cases hjt : j < xb.length
                  · obtain ⟨i, rfl⟩ : ∃ i, j = i + 1 := ⟨j - 1, by omega⟩
                    obtain ⟨u, hu⟩ : ∃ u, xb[i]? = some u := ⟨_, List.getElem?_eq_getElem (by omega)⟩
                    obtain ⟨v, hv⟩ : ∃ v, xb[i + 1]? = some v := ⟨_, List.getElem?_eq_getElem hjt⟩
                    obtain ⟨b2, off2, hA2, hp2, f0⟩ := rowNu HI.out hu HV.out HB.out
                    obtain ⟨b3, off3, hA3, hp3, f1⟩ := rowNu HI.out hv HV.out HB.out
                    subst hA2
                    injection hA3 with hA3
                    injection hA3 with q3 q4
                    subst q3; subst q4
                    have HSN := Lib.hid (sorted_next hu hv)
                    clear hu hv
                    have hjt' : ((i + 1 : Nat) : Int) < xb.length := by omega
                    have hii : IntKind.i64.wrap (((i + 1 : Nat) : Int) - 1) = (i : Int) := by rw [IntWalk.i64_in _ (by omega)]; omega
                    by_cases huv : v < u
                    · have huv' : decide (v < u) = true := by simpa using huv
                      have HN : Hid (rb = false) := Lib.hid (HSB.out (fun h => by have := (HSN.out.1 (sorted_pre h _)).2; omega))
                      (have hrf := HN.out; clear HN; subst hrf)
                      go_wp2
                      go_quiet (fail)
                      go_wp2
                      go_ret
                      exact ⟨rfl, (below_drewN HV.out _)⟩
                    · have huv' : decide (v < u) = false := by simp; omega
                      go_wp2
                      go_quiet (fail)
                      go_wp2
                      go_roundg (xb.length + 1 - (i + 2))
                      case measure => omega
                      case rel => exact ⟨i + 2, by omega, by omega, rfl, by go_num, Lib.hid (HSN.out.2 ⟨HSo.out, by omega⟩), Lib.hid (below_drewN HV.out _)⟩
                  · have hjt' : decide ((j : Int) < xb.length) = false := by simp; omega
                    have hjn : j = xb.length := by omega
                    subst hjn
                    have HSA : Hid (xb.Pairwise (· ≤ ·)) := Lib.hid (by have := HSo.out; rwa [List.take_length] at this)
                    go_wp2
                    go_roundg (l.length - (m + 1 + 1))
                    case measure => omega
                    case rel => exact ⟨m + 1 + 1, by omega, rfl, by go_num, Lib.hid (HNX.out h3 (by omega) HSA.out), HV⟩
    · have hlt' : decide ((k : Int) < l.length) = false := by simp; omega
      have hkn : k = l.length := by omega
      subst hkn
      have HN : Hid (rb = true) := Lib.hid (HRB.out.2 ((rk_end l).1 HK.out))
      (have hrf := HN.out; clear HN; subst hrf)
      go_wp2
      go_ret
      exact ⟨rfl, HW.out⟩
end Go.Proofs.Ytmdnjkiciaidiaa.Con
