/-
  Contracts of slices.Equal at rows of numbers and of Same, the program's and the document's: alike just where the messages are one.
-/
import Derived.Test.YtadpajkjjmdcnaaDoorMsr
import Derived.Deep.LoopGhost
import Derived.BigQuiet
namespace Go.Proofs.YtadpajkjjmdcnaaDoor.Con
open Go.RowKit Pm Mth
set_option linter.unusedVariables false

theorem eq_len {α : Type} {a b : List α} {x : Bool} (hx : x = true ↔ a = b) (hn : a.length ≠ b.length) : x = false := by
  cases x with
  | false => rfl
  | true => exact absurd (congrArg List.length (hx.1 rfl)) hn
theorem eq_not {α : Type} {a b : List α} {k : Nat} {s t : α} {x : Bool} (hx : x = true ↔ a = b) (hs : a[k]? = some s) (ht : b[k]? = some t) (h : s ≠ t) : x = false := by
  cases x with
  | false => rfl
  | true => rw [hx.1 rfl, ht] at hs; exact absurd (Option.some.inj hs).symm h
theorem eq_next {α : Type} {a b : List α} {k : Nat} {s t : α} (hs : a[k]? = some s) (ht : b[k]? = some t) (h : a.take k = b.take k) (he : s = t) : a.take (k + 1) = b.take (k + 1) := by
  rw [List.take_add_one, List.take_add_one, hs, ht, h, he]
theorem eq_all {α : Type} {a b : List α} {k : Nat} {x : Bool} (hx : x = true ↔ a = b) (hn : a.length = b.length) (hk : a.length ≤ k) (h : a.take k = b.take k) : x = true := by
  rw [List.take_of_length_le hk, List.take_of_length_le (by omega)] at h
  exact hx.2 h
theorem neq_int (s t : Int) (e : Bool) (he : e = true ↔ ¬ s = t) : (s != t) = e := by
  rw [Bool.eq_iff_iff, he]; simp
theorem below_drewN {B : Nat} {a b : World} (h : Below B a b) (n : Nat) : Below B a (b.drewN n) := ⟨h.os, h.tape, h.output, h.size, h.block⟩

theorem eqls_len {w : World} {A A' : Option Addr} {n m c c' : Nat} (hn : n ≠ m) : Calls Tryd.prog 23 #[.slice A n c, .slice A' m c'] w fun e w' => e = .returned (.bool false) ∧ w = w' := by
  have hn1 : ((n : Int) != (m : Int)) = true := by simp; omega
  clear hn
  go_enter Tryd.func23, Tryd.ntmps23
  go_wp2
  go_ret
  exact ⟨rfl, rfl⟩
set_option maxHeartbeats 1000000 in
theorem eqls_go {w : World} {B : Nat} {A A' : Option Addr} {a b : List Int} {n c c' : Nat} (ha : Rd .i64 w B A a) (hb : Rd .i64 w B A' b) (hna : a.length = n) (hnb : b.length = n) (hl : (n : Int) ≤ 10000000) (x : Bool) (hx : x = true ↔ a = b) :
    Calls Tryd.prog 23 #[.slice A n c, .slice A' n c'] w fun e w' => e = .returned (.bool x) ∧ ∃ k, w' = w.drewN k := by
  have HA := Lib.hid ha; have HB := Lib.hid hb; have HX := Lib.hid hx; have HNA := Lib.hid hna; have HNB := Lib.hid hnb
  have hn1 : ((n : Int) != (n : Int)) = false := by simp
  clear ha hb hx hna hnb
  go_enter Tryd.func23, Tryd.ntmps23
  go_wp2
  go_loopg [13] n (fun m s13 wr => ∃ (k q : Nat), k ≤ n ∧ m = n - k ∧ s13 = .int .i64 (k : Int) ∧ Hid (wr = w.drewN q) ∧ Hid (a.take k = b.take k))
  case atStart => exact ⟨0, 0, by omega, rfl, rfl, Lib.hid rfl, Lib.hid (by simp)⟩
  case round =>
    obtain ⟨k, q, hk, rfl, rfl, HW, HE⟩ := hrel
    by_cases hkl : k < n
    · have hkl' : (k : Int) < n := by omega
      have r1 : Rd .i64 wr B A a := by rw [HW.out]; exact HA.out.drewN q
      have r2 : Rd .i64 wr B A' b := by rw [HW.out]; exact HB.out.drewN q
      obtain ⟨p, off, s, rfl, _, hs, c0⟩ := r1.at' (k := k) (by rw [HNA.out]; exact hkl)
      obtain ⟨p', off', t, rfl, _, ht, d0⟩ := r2.at' (k := k) (by rw [HNB.out]; exact hkl)
      obtain ⟨e, he⟩ := bex (¬ s = t)
      have hq : (s != t) = e := neq_int s t e he
      have HS := Lib.hid hs; have HT := Lib.hid ht; have HEE := Lib.hid he
      clear hs ht he r1 r2
      cases e with
      | true =>
        have HF := Lib.hid (eq_not HX.out HS.out HT.out (HEE.out.1 rfl))
        clear HEE
        go_wp2
        go_quiet (fail)
        go_wp2
        go_ret
        exact ⟨by rw [HF.out]; rfl, _, by rw [HW.out, World.drewN_drewN]⟩
      | false =>
        have hst : s = t := Classical.byContradiction (fun h => by have := HEE.out.2 h; cases this)
        have HE2 := Lib.hid (eq_next HS.out HT.out HE.out hst)
        clear HEE hst
        go_wp2
        go_quiet (fail)
        go_wp2
        go_roundg (n - (k + 1))
        case measure => omega
        case rel => exact ⟨k + 1, q + nq, by omega, rfl, by go_num, Lib.hid (by rw [HW.out, World.drewN_drewN]), HE2⟩
    · have hkl' : decide ((k : Int) < n) = false := by simp; omega
      have HT := Lib.hid (eq_all HX.out (by rw [HNA.out, HNB.out]) (by rw [HNA.out]; omega) HE.out)
      go_wp2
      go_ret
      exact ⟨by rw [HT.out]; rfl, q, HW.out⟩
theorem eqls_any {w : World} {B : Nat} {A A' : Option Addr} {a b : List Int} {c c' : Nat} (ha : Rd .i64 w B A a) (hb : Rd .i64 w B A' b) (hl : (a.length : Int) ≤ 10000000) (x : Bool) (hx : x = true ↔ a = b) :
    Calls Tryd.prog 23 #[.slice A a.length c, .slice A' b.length c'] w fun e w' => e = .returned (.bool x) ∧ Below w.heap.size w w' := by
  by_cases hn : a.length = b.length
  · rw [← hn]
    refine (eqls_go ha hb rfl hn.symm hl x hx).mono ?_
    rintro e w' ⟨h1, k, rfl⟩
    exact ⟨h1, below_drewN (Below.refl _ _) k⟩
  · refine (eqls_len hn).mono ?_
    rintro e w' ⟨h1, rfl⟩
    rw [eq_len hx hn]
    exact ⟨h1, Below.refl _ _⟩
theorem ms_ext {m k : Ms} : m = k ↔ m.d = k.d ∧ m.l = k.l ∧ m.t = k.t := by
  obtain ⟨d, l, t⟩ := m
  obtain ⟨d', l', t'⟩ := k
  simp
theorem eq_no {m k : Ms} {x : Bool} (hx : x = true ↔ m = k) (h : m ≠ k) : x = false := by
  cases x with
  | false => rfl
  | true => exact absurd (hx.1 rfl) h
theorem eq_yes {m k : Ms} {x : Bool} (hx : x = true ↔ m = k) (h : m = k) : x = true := hx.2 h
theorem two_boxes (w : World) (m k : Ms) (A : Option Addr) (c : Nat) (A' : Option Addr) (c' : Nat) : Below w.heap.size w ((w.alloc (oM m A c)).alloc (oM k A' c')) ∧ Bx ((w.alloc (oM m A c)).alloc (oM k A' c')) w.heap.size m A c ∧ Bx ((w.alloc (oM m A c)).alloc (oM k A' c')) (w.heap.size + 1) k A' c' := by
  have hs : (w.alloc (oM m A c)).heap.size = w.heap.size + 1 := by simp
  refine ⟨by go_grown, ?_, ?_⟩
  · have h : Bx (w.alloc (oM m A c)) w.heap.size m A c := heap_alloc_new w _
    exact (Below.heap_alloc _ _ _ h.lt).trans h
  · rw [← hs]; exact heap_alloc_new _ _
set_option maxRecDepth 20000 in
set_option maxHeartbeats 2000000 in
theorem same_any (m k : Ms) (A : Option Addr) (c : Nat) (A' : Option Addr) (c' : Nat) (w : World) (B : Nat) (ha : Rd .i64 w B A m.l) (hb : Rd .i64 w B A' k.l) (hB : B ≤ w.heap.size) (hm : FM m) (hk : FM k) (hn : (m.l.length : Int) ≤ 10000000) (x : Bool) (hx : x = true ↔ m = k) :
    Calls Tryd.prog 14 #[mv m A c, mv k A' c'] w fun e w' => e = .returned (.bool x) ∧ Below w.heap.size w w' := by
  obtain ⟨d, l, t⟩ := m
  obtain ⟨d', l', t'⟩ := k
  obtain ⟨⟨hd0, hd1⟩, _, ht⟩ := hm
  obtain ⟨⟨hd0', hd1'⟩, _, ht'⟩ := hk
  simp only at hd0 hd1 hd0' hd1' ht ht' hn ha hb
  obtain ⟨hB0, hX0, hY0⟩ := two_boxes w ⟨d, l, t⟩ ⟨d', l', t'⟩ A c A' c'
  have HB0 := Lib.hid hB0; clear hB0
  have HRa := Lib.hid (ha.below HB0.out hB)
  have HRb := Lib.hid (hb.below HB0.out hB)
  clear ha hb hB
  obtain ⟨z0, z1, z2⟩ := hX0.at
  obtain ⟨y0, y1, y2⟩ := hY0.at
  simp only at z0 z1 z2 y0 y1 y2
  have HX0 := Lib.hid hX0; have HY0 := Lib.hid hY0
  clear hX0 hY0
  by_cases h1 : d = d'
  · have h1' : (d == d') = true := by simpa using h1
    obtain ⟨e1, he1⟩ := bex (l = l')
    have HC := Lib.hid (eqls_any (c := c) (c' := c') HRa.out HRb.out hn e1 he1)
    cases e1 with
    | false =>
      have HF := Lib.hid (eq_no hx (fun h => by have := he1.2 (ms_ext.1 h).2.1; cases this))
      clear he1 hx h1
      go_enter Tryd.func14, Tryd.ntmps14
      go_wp2_with ((with_reducible refine HC.out.mono ?_); rintro e w3 ⟨rfl, hB3⟩)
      go_ret
      exact ⟨Pk.ret_bool HF.out.symm, HB0.out.trans (hB3.mono HB0.out.size)⟩
    | true =>
      have hl := he1.1 rfl
      have hT := beq_str ht ht' x (by rw [hx, ms_ext]; simp [h1, hl])
      clear he1 hx h1 hl
      go_enter Tryd.func14, Tryd.ntmps14
      go_wp2_with ((with_reducible refine HC.out.mono ?_); rintro e w3 ⟨rfl, hB3⟩; have HB3 := Lib.hid hB3; have q2 := (HX0.out.of hB3 HX0.out.lt).at.2.2; have q3 := (HY0.out.of hB3 HY0.out.lt).at.2.2; simp only at q2 q3; clear hB3)
      go_ret
      exact ⟨Pk.ret_bool rfl, HB0.out.trans (HB3.out.mono HB0.out.size)⟩
  · have h1' : (d == d') = false := by simpa using h1
    have HF := Lib.hid (eq_no hx (fun h => h1 (ms_ext.1 h).1))
    clear hx h1
    go_enter Tryd.func14, Tryd.ntmps14
    go_wp2
    go_ret
    exact ⟨Pk.ret_bool HF.out.symm, HB0.out⟩
theorem eq_two {m k : Ms} {x : Bool} (hx : x = true ↔ m = k) (h1 : m.d = k.d) (h2 : m.t = k.t) : x = true ↔ m.l = k.l := by
  rw [hx, ms_ext]; simp [h1, h2]
set_option maxRecDepth 20000 in
set_option maxHeartbeats 2000000 in
theorem rsame_any (m k : Ms) (A : Option Addr) (c : Nat) (A' : Option Addr) (c' : Nat) (w : World) (B : Nat) (ha : Rd .i64 w B A m.l) (hb : Rd .i64 w B A' k.l) (hB : B ≤ w.heap.size) (hm : FM m) (hk : FM k) (hn : (m.l.length : Int) ≤ 10000000) (x : Bool) (hx : x = true ↔ m = k) :
    Calls Tryd.prog 15 #[mv m A c, mv k A' c'] w fun e w' => e = .returned (.bool x) ∧ Below w.heap.size w w' := by
  obtain ⟨d, l, t⟩ := m
  obtain ⟨d', l', t'⟩ := k
  obtain ⟨⟨hd0, hd1⟩, _, ht⟩ := hm
  obtain ⟨⟨hd0', hd1'⟩, _, ht'⟩ := hk
  simp only at hd0 hd1 hd0' hd1' ht ht' hn ha hb
  obtain ⟨hB0, hX0, hY0⟩ := two_boxes w ⟨d, l, t⟩ ⟨d', l', t'⟩ A c A' c'
  have HB0 := Lib.hid hB0; clear hB0
  have HRa := Lib.hid (ha.below HB0.out hB)
  have HRb := Lib.hid (hb.below HB0.out hB)
  clear ha hb hB
  obtain ⟨z0, z1, z2⟩ := hX0.at
  obtain ⟨y0, y1, y2⟩ := hY0.at
  simp only at z0 z1 z2 y0 y1 y2
  have HX0 := Lib.hid hX0; have HY0 := Lib.hid hY0
  clear hX0 hY0
  by_cases h1 : d = d'
  · have h1' : (d != d') = false := by simpa using h1
    obtain ⟨e1, he1⟩ := bex (t = t')
    have hT : ((strOfNums t).toList != (strOfNums t').toList) = !e1 := by rw [bne, beq_str ht ht' e1 he1]
    have hT2 : ((strOfNums t).toList == (strOfNums t').toList) = e1 := beq_str ht ht' e1 he1
    cases e1 with
    | false =>
      simp only [Bool.not_false] at hT
      have hT3 : ¬ (strOfNums t).toList = (strOfNums t').toList := fun h => by
        have := he1.2 ((str_iff ht ht').1 h)
        cases this
      have HF := Lib.hid (eq_no hx (fun h => by have := he1.2 (ms_ext.1 h).2.2; cases this))
      clear he1 hx h1
      go_enter Tryd.func15, Tryd.ntmps15
      go_wp2
      go_ret
      exact ⟨Pk.ret_bool HF.out.symm, HB0.out⟩
    | true =>
      simp only [Bool.not_true] at hT
      have hT3 : (strOfNums t).toList = (strOfNums t').toList := (str_iff ht ht').2 (he1.1 rfl)
      have HX := Lib.hid (eq_two hx h1 (he1.1 rfl))
      clear he1 hx h1
      by_cases hl : l.length = l'.length
      · have hl' : ((l.length : Int) != (l'.length : Int)) = false := by simp; omega
        have hl2 : (l.length != l'.length) = false := by simpa using hl
        have HL := Lib.hid hl; clear hl
        go_enter Tryd.func15, Tryd.ntmps15
        go_wp2_with (fail)
        generalize (w.alloc (oM ⟨d, l, t⟩ A c)).alloc (oM ⟨d', l', t'⟩ A' c') = w0 at *
        go_loopg [5] l.length (fun g s5 wr => ∃ (j q : Nat), j ≤ l.length ∧ g = l.length - j ∧ s5 = .int .i64 (j : Int) ∧ Hid (wr = w0.drewN q) ∧ Hid (l.take j = l'.take j))
        case atStart => exact ⟨0, 0, by omega, rfl, rfl, Lib.hid rfl, Lib.hid (by simp)⟩
        case round =>
          obtain ⟨j, q, hj, rfl, rfl, HW, HE⟩ := hrel
          have u1 : wr.cell? ⟨w.heap.size, 1, none⟩ = some (.slice A l.length c) := by rw [HW.out]; exact HX0.out.at.2.1
          have u2 : wr.cell? ⟨w.heap.size + 1, 1, none⟩ = some (.slice A' l'.length c') := by rw [HW.out]; exact HY0.out.at.2.1
          clear z0 z1 z2 y0 y1 y2
          by_cases hjl : j < l.length
          · have hjl' : (j : Int) < l.length := by omega
            have hjl2 : (j : Int) < l'.length := by have := HL.out; omega
            have r1 : Rd .i64 wr B A l := by rw [HW.out]; exact HRa.out.drewN q
            have r2 : Rd .i64 wr B A' l' := by rw [HW.out]; exact HRb.out.drewN q
            obtain ⟨p, off, s, rfl, _, hs, c0⟩ := r1.at' (k := j) hjl
            obtain ⟨p', off', u, rfl, _, hu, d0⟩ := r2.at' (k := j) (by have := HL.out; omega)
            obtain ⟨e, he⟩ := bex (¬ s = u)
            have hq : (s != u) = e := neq_int s u e he
            have HS := Lib.hid hs; have HU := Lib.hid hu; have HEE := Lib.hid he
            clear hs hu he r1 r2
            cases e with
            | true =>
              have HF := Lib.hid (eq_not HX.out HS.out HU.out (HEE.out.1 rfl))
              clear HEE
              go_wp2
              go_quiet (fail)
              go_wp2
              go_ret
              exact ⟨by rw [HF.out]; rfl, by rw [HW.out, World.drewN_drewN]; exact below_drewN HB0.out _⟩
            | false =>
              have hst : s = u := Classical.byContradiction (fun h => by have := HEE.out.2 h; cases this)
              have HE2 := Lib.hid (eq_next HS.out HU.out HE.out hst)
              clear HEE hst
              go_wp2
              go_quiet (fail)
              go_wp2
              go_roundg (l.length - (j + 1))
              case measure => omega
              case rel => exact ⟨j + 1, q + nq, by omega, rfl, by go_num, Lib.hid (by rw [HW.out, World.drewN_drewN]), HE2⟩
          · have hjl' : decide ((j : Int) < l.length) = false := by simp; omega
            have hjl2 : decide (j < l.length) = false := by simpa using hjl
            have HT := Lib.hid (eq_all HX.out HL.out (by omega) HE.out)
            go_wp2
            go_ret
            exact ⟨by rw [HT.out]; rfl, by rw [HW.out]; exact below_drewN HB0.out _⟩
      · have HF := Lib.hid (eq_len HX.out hl)
        have hl' : ((l.length : Int) != (l'.length : Int)) = true := by simp; omega
        have hl2 : (l.length != l'.length) = true := by simpa using hl
        clear hl
        go_enter Tryd.func15, Tryd.ntmps15
        go_wp2
        go_ret
        exact ⟨Pk.ret_bool HF.out.symm, HB0.out⟩
  · have h1' : (d != d') = true := by simpa using h1
    have HF := Lib.hid (eq_no hx (fun h => h1 (ms_ext.1 h).1))
    clear hx h1
    go_enter Tryd.func15, Tryd.ntmps15
    go_wp2
    go_ret
    exact ⟨Pk.ret_bool HF.out.symm, HB0.out⟩
end Go.Proofs.YtadpajkjjmdcnaaDoor.Con
