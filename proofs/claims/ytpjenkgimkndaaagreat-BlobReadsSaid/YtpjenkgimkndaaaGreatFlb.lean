/-
  Contracts of the program's calls that write abilities, auras, foes, grids and content as numbers.
-/
import Derived.Test.YtpjenkgimkndaaaGreatFla
namespace Go.Proofs.YtpjenkgimkndaaaGreat.Con
open Go.RowKit Go.Maps Pm Mth
set_option maxRecDepth 20000 in
set_option maxHeartbeats 4000000 in
theorem flatAura_any (x : Au) (w : World) (base : Nat) (A : Option Addr) (c : Nat) (l : List Int) (ho : Own w base .i64 3 A c l) (hl : ((l ++ fAu x).length : Int) ≤ 1000000) (hb : base ≤ w.heap.size) :
    Calls Tryz.prog 27 #[.slice A l.length c, auv x] w (WI w base (blk A) (l ++ fAu x)) := by
  have hl : ((l ++ ([x.id, x.kind, x.ticks, x.every, x.stacks, x.amount] ++ fTr x.harm)).length : Int) ≤ 1000000 := hl
  have HO := Lib.hid ho; have HL := Lib.hid hl; have HL1 := Lib.hid (room1 (room3 hl)); have HB9 := Lib.hid hb
  have HBX : Hid (((w.alloc (.cells #[.int .i64 x.id, .int .i64 x.kind, .int .i64 x.ticks, .int .i64 x.every, .int .i64 x.stacks, .int .i64 x.amount, .bool x.harm] 63)).alloc (.cells (vs .i64 [x.id, x.kind, x.ticks, x.every, x.stacks, x.amount]).toArray 3)).heap[w.heap.size]? = some (.cells #[.int .i64 x.id, .int .i64 x.kind, .int .i64 x.ticks, .int .i64 x.every, .int .i64 x.stacks, .int .i64 x.amount, .bool x.harm] 63)) := Lib.hid ((Below.heap_alloc _ _ _ (by simp)).trans (heap_alloc_new w _))
  clear ho hl hb
  go_enter Tryz.func27, Tryz.ntmps27
  go_wp2_with (first
    | (at_builtin; refine Pm.wpList_app (K := .i64) (t := 35) (e := 3) Tryz.underlying35 int_info rfl (by omega) rfl (.tmp 5) (.tmp 18) rfl base (w.heap.size + 2) A c l [x.id, x.kind, x.ticks, x.every, x.stacks, x.amount] _ _ rfl rfl ((HO.out.alloc _).alloc _) (rd_at rfl (by simp) (by simp)) HL1.out (by have := HB9.out; simp <;> omega) ?_; intro A2 c2 w2 l2 HL2 HO2 HS2; have HT2 : Hid (Step w w2 (blk A) A2) := Lib.hid ((((Step.refl w A).alloc _).alloc _).trans HS2.out); have hz2 := step_box HS2.out HO.out (Nat.le_refl _) HBX.out; have hs2 : w.heap.size < w2.heap.size := Nat.lt_of_lt_of_le (by simp; omega) HS2.out.grown.size)
    | ((with_reducible refine (flatTruth_any x.harm _ base A2 c2 l2 HO2.out (room2 HL.out HL2.out) (step_le HT2.out HB9.out)).mono ?_); rintro e w3 ⟨l3, A3, c3, HL3, rfl, HO3, HS3⟩))
  go_ret
  exact wi_at (HT2.out.trans HS3.out) HO3.out (join2 HL3.out HL2.out)
set_option maxRecDepth 20000 in
set_option maxHeartbeats 4000000 in
theorem flatAbility_any (x : Ab) (w : World) (base : Nat) (A : Option Addr) (c : Nat) (l : List Int) (ho : Own w base .i64 3 A c l) (hl : ((l ++ fAb x).length : Int) ≤ 1000000) (hb : base ≤ w.heap.size) (B : Nat) (hr : RW ef w B x.ea x.eff) (hB : B ≤ base) :
    Calls Tryz.prog 25 #[.slice A l.length c, abv x] w (WI w base (blk A) (l ++ fAb x)) := by
  have hl : ((l ++ ([x.id, x.cast, x.cool, x.charges, x.range, x.cost] ++ (fTr x.sight ++ fRows fEf x.eff))).length : Int) ≤ 1000000 := hl
  have HO := Lib.hid ho; have HL := Lib.hid hl; have HL1 := Lib.hid (room1 (room3 hl)); have HB9 := Lib.hid hb
  have HBX : Hid (((w.alloc (.cells #[.int .i64 x.id, .int .i64 x.cast, .int .i64 x.cool, .int .i64 x.charges, .int .i64 x.range, .int .i64 x.cost, .bool x.sight, .slice x.ea x.eff.length x.ec] 52)).alloc (.cells (vs .i64 [x.id, x.cast, x.cool, x.charges, x.range, x.cost]).toArray 3)).heap[w.heap.size]? = some (.cells #[.int .i64 x.id, .int .i64 x.cast, .int .i64 x.cool, .int .i64 x.charges, .int .i64 x.range, .int .i64 x.cost, .bool x.sight, .slice x.ea x.eff.length x.ec] 52)) := Lib.hid ((Below.heap_alloc _ _ _ (by simp)).trans (heap_alloc_new w _))
  have HR := Lib.hid hr; have HB := Lib.hid hB
  clear ho hl hb hr hB
  go_enter Tryz.func25, Tryz.ntmps25
  go_wp2_with (first
    | (at_builtin; refine Pm.wpList_app (K := .i64) (t := 35) (e := 3) Tryz.underlying35 int_info rfl (by omega) rfl (.tmp 5) (.tmp 18) rfl base (w.heap.size + 2) A c l [x.id, x.cast, x.cool, x.charges, x.range, x.cost] _ _ rfl rfl ((HO.out.alloc _).alloc _) (rd_at rfl (by simp) (by simp)) HL1.out (by have := HB9.out; simp <;> omega) ?_; intro A2 c2 w2 l2 HL2 HO2 HS2; have HT2 : Hid (Step w w2 (blk A) A2) := Lib.hid ((((Step.refl w A).alloc _).alloc _).trans HS2.out); have hz2 := step_box HS2.out HO.out (Nat.le_refl _) HBX.out; have hs2 : w.heap.size < w2.heap.size := Nat.lt_of_lt_of_le (by simp; omega) HS2.out.grown.size)
    | ((with_reducible refine (flatTruth_any x.sight _ base A2 c2 l2 HO2.out (room3 (room2 HL.out HL2.out)) (step_le HT2.out HB9.out)).mono ?_); rintro e w3 ⟨l3, A3, c3, HL3, rfl, HO3, HS3⟩; have HT3 : Hid (Step w w3 (blk A) A3) := Lib.hid (HT2.out.trans HS3.out); clear hz2; have hz3 := step_box (HS2.out.trans HS3.out) HO.out (Nat.le_refl _) HBX.out; have hs3 : w.heap.size < w3.heap.size := Nat.lt_of_lt_of_le hs2 HS3.out.grown.size)
    | ((with_reducible refine (flatRows_ef x.eff _ _ _ base A3 c3 l3 HO3.out (room2 (room2 HL.out HL2.out) HL3.out) (step_le HT3.out HB9.out) B (HR.out.below (step_low HT3.out HO.out HB9.out) HB.out) HB.out).mono ?_); rintro e w4 ⟨l4, A4, c4, HL4, rfl, HO4, HS4⟩))
  go_ret
  exact wi_at (HT3.out.trans HS4.out) HO4.out ((join2 (join2 HL4.out HL3.out) HL2.out).trans (by simp [fAb, fTr]))
set_option maxRecDepth 20000 in
set_option maxHeartbeats 4000000 in
theorem flatFoe_any (x : Fo) (w : World) (base : Nat) (A : Option Addr) (c : Nat) (l : List Int) (ho : Own w base .i64 3 A c l) (hl : ((l ++ fFo x).length : Int) ≤ 1000000) (hb : base ≤ w.heap.size) (B : Nat) (hr : RW ln w B x.sa x.script) (hr2 : RW pz w B x.ha x.hoard) (hB : B ≤ base) :
    Calls Tryz.prog 29 #[.slice A l.length c, fov x] w (WI w base (blk A) (l ++ fFo x)) := by
  have hl : ((l ++ ([x.id, x.health, x.hit, x.every, x.reach, x.drops] ++ (fRows fLn x.script ++ fRows fPz x.hoard))).length : Int) ≤ 1000000 := (by have := hl; simpa [fFo] using this)
  have HO := Lib.hid ho; have HL := Lib.hid hl; have HL1 := Lib.hid (room1 (room3 hl)); have HB9 := Lib.hid hb
  have HBX : Hid (((w.alloc (.cells #[.int .i64 x.id, .int .i64 x.health, .int .i64 x.hit, .int .i64 x.every, .int .i64 x.reach, .slice x.sa x.script.length x.sc, .slice x.ha x.hoard.length x.hc, .int .i64 x.drops] 56)).alloc (.cells (vs .i64 [x.id, x.health, x.hit, x.every, x.reach, x.drops]).toArray 3)).heap[w.heap.size]? = some (.cells #[.int .i64 x.id, .int .i64 x.health, .int .i64 x.hit, .int .i64 x.every, .int .i64 x.reach, .slice x.sa x.script.length x.sc, .slice x.ha x.hoard.length x.hc, .int .i64 x.drops] 56)) := Lib.hid ((Below.heap_alloc _ _ _ (by simp)).trans (heap_alloc_new w _))
  have HR := Lib.hid hr; have HR2 := Lib.hid hr2; have HB := Lib.hid hB
  clear ho hl hb hr hr2 hB
  go_enter Tryz.func29, Tryz.ntmps29
  go_wp2_with (first
    | (at_builtin; refine Pm.wpList_app (K := .i64) (t := 35) (e := 3) Tryz.underlying35 int_info rfl (by omega) rfl (.tmp 5) (.tmp 18) rfl base (w.heap.size + 2) A c l [x.id, x.health, x.hit, x.every, x.reach, x.drops] _ _ rfl rfl ((HO.out.alloc _).alloc _) (rd_at rfl (by simp) (by simp)) HL1.out (by have := HB9.out; simp <;> omega) ?_; intro A2 c2 w2 l2 HL2 HO2 HS2; have HT2 : Hid (Step w w2 (blk A) A2) := Lib.hid ((((Step.refl w A).alloc _).alloc _).trans HS2.out); have hz2 := step_box HS2.out HO.out (Nat.le_refl _) HBX.out; have hs2 : w.heap.size < w2.heap.size := Nat.lt_of_lt_of_le (by simp; omega) HS2.out.grown.size)
    | ((with_reducible refine (flatRows_ln x.script _ _ _ base A2 c2 l2 HO2.out (room3 (room2 HL.out HL2.out)) (step_le HT2.out HB9.out) B (HR.out.below (step_low HT2.out HO.out HB9.out) HB.out) HB.out).mono ?_); rintro e w3 ⟨l3, A3, c3, HL3, rfl, HO3, HS3⟩; have HT3 : Hid (Step w w3 (blk A) A3) := Lib.hid (HT2.out.trans HS3.out); clear hz2; have hz3 := step_box (HS2.out.trans HS3.out) HO.out (Nat.le_refl _) HBX.out; have hs3 : w.heap.size < w3.heap.size := Nat.lt_of_lt_of_le hs2 HS3.out.grown.size)
    | ((with_reducible refine (flatRows_pz x.hoard _ _ _ base A3 c3 l3 HO3.out (room2 (room2 HL.out HL2.out) HL3.out) (step_le HT3.out HB9.out) B (HR2.out.below (step_low HT3.out HO.out HB9.out) HB.out) HB.out).mono ?_); rintro e w4 ⟨l4, A4, c4, HL4, rfl, HO4, HS4⟩))
  go_ret
  exact wi_at (HT3.out.trans HS4.out) HO4.out ((join2 (join2 HL4.out HL3.out) HL2.out).trans (by simp [fFo]))
set_option maxRecDepth 20000 in
set_option maxHeartbeats 4000000 in
theorem flatRows_au (m : List Au) (A2 : Option Addr) (c2 : Nat) (w : World) (base : Nat) (A : Option Addr) (c : Nat) (l : List Int) (ho : Own w base .i64 3 A c l) (hl : ((l ++ fRows fAu m).length : Int) ≤ 1000000) (hb : base ≤ w.heap.size) (B : Nat) (hr : RW au w B A2 m) (hB : B ≤ base) :
    Calls Tryz.prog 26 #[.slice A l.length c, .slice A2 m.length c2, .func (.func 27) #[] #[]] w (WI w base (blk A) (l ++ fRows fAu m)) := by
  have hm1 : (m.length : Int) ≤ 1000000 := by
    have h9 := hl; unfold fRows at h9; simp only [List.length_append, List.length_cons] at h9
    have : m.length ≤ (m.flatMap fAu).length := by
      clear h9 hl hr
      induction m with
      | nil => simp
      | cons x r ih => rw [List.flatMap_cons, List.length_append, List.length_cons]; have : 1 ≤ (fAu x).length := by simp [fAu]
                       omega
    omega
  have HO := Lib.hid ho; have HL := Lib.hid hl; have HB9 := Lib.hid hb; have HR := Lib.hid hr; have HB := Lib.hid hB
  clear ho hl hb hr hB
  have HL1 : Hid (l.length + [(m.length : Int)].length ≤ 17179869184) := Lib.hid (by have h9 := HL.out; unfold fRows at h9; simp only [List.length_append, List.length_cons] at h9; simp; omega)
  go_enter Tryz.func26, Tryz.ntmps26
  go_wp2_with (at_builtin; refine Pm.wpList_app (K := .i64) (t := 35) (e := 3) Tryz.underlying35 int_info rfl (by omega) rfl (.tmp 9) (.tmp 12) rfl base (w.heap.size + 1) A c l [(m.length : Int)] _ _ rfl rfl (HO.out.alloc _) (rd_at rfl (by simp) (by simp)) HL1.out (by have := HB9.out; simp <;> omega) ?_; intro A3 c3 w3 l3 HL3 HO3 HS3)
  have HT : Hid (Step w w3 (blk A) A3) := Lib.hid (((Step.refl w A).alloc _).trans HS3.out)
  go_loopg [0, 16] m.length (fun g s0 s16 wr => ∃ (k : Nat) (l1 : List Int) (A1 : Option Addr) (c1 : Nat), k ≤ m.length ∧ g = m.length - k ∧ s0 = .slice A1 l1.length c1 ∧ s16 = .int .i64 (k : Int) ∧ Hid (Own wr base .i64 3 A1 c1 l1) ∧ Hid (Step w wr (blk A) A1) ∧ Hid (l1 = l ++ ((m.length : Int) :: (m.take k).flatMap fAu)))
  case atStart => exact ⟨0, l3, A3, c3, by omega, rfl, rfl, rfl, HO3, HT, Lib.hid (by rw [HL3.out]; simp)⟩
  case round =>
    obtain ⟨k, l1, A1, c1, hk, rfl, rfl, rfl, HO1, HS1, HE⟩ := hrel
    by_cases hlt : k < m.length
    · have hkl' : (k : Int) < m.length := by omega
      obtain ⟨x, hx⟩ : ∃ x, m[k]? = some x := ⟨_, List.getElem?_eq_getElem hlt⟩
      have hlow := step_low HS1.out HO.out HB9.out
      obtain ⟨p, off, hA, hpl, q0, q1, q2, q3, q4, q5, q6⟩ := rowAu HR.out hx hlow HB.out
      subst hA
      have HX := Lib.hid hx; have HLow := Lib.hid hlow
      have hws : base ≤ wr.heap.size := step_le HS1.out HB9.out
      have hpw : p < wr.heap.size := by have := HB.out; omega
      have HRoom := Lib.hid (room_take HX.out HE.out HL.out)
      clear hx hlow
      go_wp2_with (first | ((with_reducible refine (flatAura_any x _ base A1 c1 l1 (HO1.out.alloc _) HRoom.out (by simp <;> omega)).mono ?_); rintro e w4 ⟨l4, A4, c4, HL4, rfl, HO4, HS4⟩))
      go_roundg (m.length - (k + 1))
      case measure => omega
      case rel => exact ⟨k + 1, l4, A4, c4, by omega, rfl, rfl, by go_num, HO4, Lib.hid ((HS1.out.alloc _).trans HS4.out), Lib.hid (by rw [HL4.out]; exact at_take HX.out HE.out)⟩
    · have hkl' : decide ((k : Int) < m.length) = false := by simp; omega
      go_wp2
      go_ret
      exact wi_at HS1.out HO1.out (all_take (by omega) HE.out)
set_option maxRecDepth 20000 in
set_option maxHeartbeats 4000000 in
theorem flatRows_ab (m : List Ab) (A2 : Option Addr) (c2 : Nat) (w : World) (base : Nat) (A : Option Addr) (c : Nat) (l : List Int) (ho : Own w base .i64 3 A c l) (hl : ((l ++ fRows fAb m).length : Int) ≤ 1000000) (hb : base ≤ w.heap.size) (B : Nat) (hr : RW ab w B A2 m) (hB : B ≤ base) (he : ∀ a ∈ m, RW ef w B a.ea a.eff) :
    Calls Tryz.prog 24 #[.slice A l.length c, .slice A2 m.length c2, .func (.func 25) #[] #[]] w (WI w base (blk A) (l ++ fRows fAb m)) := by
  have hm1 : (m.length : Int) ≤ 1000000 := by
    have h9 := hl; unfold fRows at h9; simp only [List.length_append, List.length_cons] at h9
    have : m.length ≤ (m.flatMap fAb).length := by
      clear h9 hl hr he
      induction m with
      | nil => simp
      | cons x r ih => rw [List.flatMap_cons, List.length_append, List.length_cons]; have : 1 ≤ (fAb x).length := by simp [fAb]
                       omega
    omega
  have HO := Lib.hid ho; have HL := Lib.hid hl; have HB9 := Lib.hid hb; have HR := Lib.hid hr; have HB := Lib.hid hB; have HEr := Lib.hid he
  clear ho hl hb hr hB he
  have HL1 : Hid (l.length + [(m.length : Int)].length ≤ 17179869184) := Lib.hid (by have h9 := HL.out; unfold fRows at h9; simp only [List.length_append, List.length_cons] at h9; simp; omega)
  go_enter Tryz.func24, Tryz.ntmps24
  go_wp2_with (at_builtin; refine Pm.wpList_app (K := .i64) (t := 35) (e := 3) Tryz.underlying35 int_info rfl (by omega) rfl (.tmp 9) (.tmp 12) rfl base (w.heap.size + 1) A c l [(m.length : Int)] _ _ rfl rfl (HO.out.alloc _) (rd_at rfl (by simp) (by simp)) HL1.out (by have := HB9.out; simp <;> omega) ?_; intro A3 c3 w3 l3 HL3 HO3 HS3)
  have HT : Hid (Step w w3 (blk A) A3) := Lib.hid (((Step.refl w A).alloc _).trans HS3.out)
  go_loopg [0, 16] m.length (fun g s0 s16 wr => ∃ (k : Nat) (l1 : List Int) (A1 : Option Addr) (c1 : Nat), k ≤ m.length ∧ g = m.length - k ∧ s0 = .slice A1 l1.length c1 ∧ s16 = .int .i64 (k : Int) ∧ Hid (Own wr base .i64 3 A1 c1 l1) ∧ Hid (Step w wr (blk A) A1) ∧ Hid (l1 = l ++ ((m.length : Int) :: (m.take k).flatMap fAb)))
  case atStart => exact ⟨0, l3, A3, c3, by omega, rfl, rfl, rfl, HO3, HT, Lib.hid (by rw [HL3.out]; simp)⟩
  case round =>
    obtain ⟨k, l1, A1, c1, hk, rfl, rfl, rfl, HO1, HS1, HE⟩ := hrel
    by_cases hlt : k < m.length
    · have hkl' : (k : Int) < m.length := by omega
      obtain ⟨x, hx⟩ : ∃ x, m[k]? = some x := ⟨_, List.getElem?_eq_getElem hlt⟩
      have hlow := step_low HS1.out HO.out HB9.out
      obtain ⟨p, off, hA, hpl, q0, q1, q2, q3, q4, q5, q6, q7⟩ := rowAb HR.out hx hlow HB.out
      subst hA
      have HX := Lib.hid hx; have HLow := Lib.hid hlow
      have hws : base ≤ wr.heap.size := step_le HS1.out HB9.out
      have hpw : p < wr.heap.size := by have := HB.out; omega
      have HRoom := Lib.hid (room_take HX.out HE.out HL.out)
      clear hx hlow
      go_wp2_with (first | ((with_reducible refine (flatAbility_any x _ base A1 c1 l1 (HO1.out.alloc _) HRoom.out (by simp <;> omega) B ((HEr.out x (List.mem_of_getElem? HX.out)).below (HLow.out.alloc hws _) HB.out) HB.out).mono ?_); rintro e w4 ⟨l4, A4, c4, HL4, rfl, HO4, HS4⟩))
      go_roundg (m.length - (k + 1))
      case measure => omega
      case rel => exact ⟨k + 1, l4, A4, c4, by omega, rfl, rfl, by go_num, HO4, Lib.hid ((HS1.out.alloc _).trans HS4.out), Lib.hid (by rw [HL4.out]; exact at_take HX.out HE.out)⟩
    · have hkl' : decide ((k : Int) < m.length) = false := by simp; omega
      go_wp2
      go_ret
      exact wi_at HS1.out HO1.out (all_take (by omega) HE.out)
set_option maxRecDepth 20000 in
set_option maxHeartbeats 4000000 in
theorem flatRows_fo (m : List Fo) (A2 : Option Addr) (c2 : Nat) (w : World) (base : Nat) (A : Option Addr) (c : Nat) (l : List Int) (ho : Own w base .i64 3 A c l) (hl : ((l ++ fRows fFo m).length : Int) ≤ 1000000) (hb : base ≤ w.heap.size) (B : Nat) (hr : RW fo w B A2 m) (hB : B ≤ base) (he : ∀ a ∈ m, RW ln w B a.sa a.script) (he2 : ∀ a ∈ m, RW pz w B a.ha a.hoard) :
    Calls Tryz.prog 28 #[.slice A l.length c, .slice A2 m.length c2, .func (.func 29) #[] #[]] w (WI w base (blk A) (l ++ fRows fFo m)) := by
  have hm1 : (m.length : Int) ≤ 1000000 := by
    have h9 := hl; unfold fRows at h9; simp only [List.length_append, List.length_cons] at h9
    have : m.length ≤ (m.flatMap fFo).length := by
      clear h9 hl hr he he2
      induction m with
      | nil => simp
      | cons x r ih => rw [List.flatMap_cons, List.length_append, List.length_cons]; have : 1 ≤ (fFo x).length := by simp [fFo]
                       omega
    omega
  have HO := Lib.hid ho; have HL := Lib.hid hl; have HB9 := Lib.hid hb; have HR := Lib.hid hr; have HB := Lib.hid hB; have HEr := Lib.hid he; have HEs := Lib.hid he2
  clear ho hl hb hr hB he he2
  have HL1 : Hid (l.length + [(m.length : Int)].length ≤ 17179869184) := Lib.hid (by have h9 := HL.out; unfold fRows at h9; simp only [List.length_append, List.length_cons] at h9; simp; omega)
  go_enter Tryz.func28, Tryz.ntmps28
  go_wp2_with (at_builtin; refine Pm.wpList_app (K := .i64) (t := 35) (e := 3) Tryz.underlying35 int_info rfl (by omega) rfl (.tmp 9) (.tmp 12) rfl base (w.heap.size + 1) A c l [(m.length : Int)] _ _ rfl rfl (HO.out.alloc _) (rd_at rfl (by simp) (by simp)) HL1.out (by have := HB9.out; simp <;> omega) ?_; intro A3 c3 w3 l3 HL3 HO3 HS3)
  have HT : Hid (Step w w3 (blk A) A3) := Lib.hid (((Step.refl w A).alloc _).trans HS3.out)
  go_loopg [0, 16] m.length (fun g s0 s16 wr => ∃ (k : Nat) (l1 : List Int) (A1 : Option Addr) (c1 : Nat), k ≤ m.length ∧ g = m.length - k ∧ s0 = .slice A1 l1.length c1 ∧ s16 = .int .i64 (k : Int) ∧ Hid (Own wr base .i64 3 A1 c1 l1) ∧ Hid (Step w wr (blk A) A1) ∧ Hid (l1 = l ++ ((m.length : Int) :: (m.take k).flatMap fFo)))
  case atStart => exact ⟨0, l3, A3, c3, by omega, rfl, rfl, rfl, HO3, HT, Lib.hid (by rw [HL3.out]; simp)⟩
  case round =>
    obtain ⟨k, l1, A1, c1, hk, rfl, rfl, rfl, HO1, HS1, HE⟩ := hrel
    by_cases hlt : k < m.length
    · have hkl' : (k : Int) < m.length := by omega
      obtain ⟨x, hx⟩ : ∃ x, m[k]? = some x := ⟨_, List.getElem?_eq_getElem hlt⟩
      have hlow := step_low HS1.out HO.out HB9.out
      obtain ⟨p, off, hA, hpl, q0, q1, q2, q3, q4, q5, q6, q7⟩ := rowFo HR.out hx hlow HB.out
      subst hA
      have HX := Lib.hid hx; have HLow := Lib.hid hlow
      have hws : base ≤ wr.heap.size := step_le HS1.out HB9.out
      have hpw : p < wr.heap.size := by have := HB.out; omega
      have HRoom := Lib.hid (room_take HX.out HE.out HL.out)
      clear hx hlow
      go_wp2_with (first | ((with_reducible refine (flatFoe_any x _ base A1 c1 l1 (HO1.out.alloc _) HRoom.out (by simp <;> omega) B ((HEr.out x (List.mem_of_getElem? HX.out)).below (HLow.out.alloc hws _) HB.out) ((HEs.out x (List.mem_of_getElem? HX.out)).below (HLow.out.alloc hws _) HB.out) HB.out).mono ?_); rintro e w4 ⟨l4, A4, c4, HL4, rfl, HO4, HS4⟩))
      go_roundg (m.length - (k + 1))
      case measure => omega
      case rel => exact ⟨k + 1, l4, A4, c4, by omega, rfl, rfl, by go_num, HO4, Lib.hid ((HS1.out.alloc _).trans HS4.out), Lib.hid (by rw [HL4.out]; exact at_take HX.out HE.out)⟩
    · have hkl' : decide ((k : Int) < m.length) = false := by simp; omega
      go_wp2
      go_ret
      exact wi_at HS1.out HO1.out (all_take (by omega) HE.out)
end Go.Proofs.YtpjenkgimkndaaaGreat.Con
